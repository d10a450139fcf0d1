/- Plain arithmetic of whole numbers in two words and in eight digits: no Go in it. -/
import Derived.WalkKit
import Derived.Test.YtinefkljjnepjabGreatWPBs
namespace Go.Proofs.YtinefkljjnepjabGreat
open Go.RowKit
def hiv (v:Int):Int:=(v/18446744073709551616+9223372036854775808)%18446744073709551616-9223372036854775808
def lov (v:Int):Int:=v%18446744073709551616
theorem hiv_bd (v:Int):-9223372036854775808≤hiv v∧hiv v<9223372036854775808:=by
 unfold hiv;omega
theorem lov_bd (v:Int):0≤lov v∧lov v<18446744073709551616:=by
 unfold lov;omega
def sv (v:Int):Int:=hiv v*18446744073709551616+lov v
theorem sv_eq (v:Int):sv v=(v+170141183460469231731687303715884105728)%340282366920938463463374607431768211456-170141183460469231731687303715884105728:=by
 unfold sv hiv lov;omega
theorem sv_of (v:Int) (h0:-170141183460469231731687303715884105728≤v) (h1:v<170141183460469231731687303715884105728):sv v=v:=by
 rw [sv_eq];omega
theorem times_lo (a b:Int):IntKind.u64.wrap a*b%18446744073709551616=lov (a*b):=by
 rw [IntKind.wrap_u64];unfold lov
 exact (by rw [Int.mul_emod (a%18446744073709551616) b,Int.emod_emod_of_dvd a (Int.dvd_refl _),←Int.mul_emod])
theorem times_hi (a b:Int) (h0:-9223372036854775808≤a) (h1:a<9223372036854775808) (hn:a<0) :
  wrap64 (IntKind.u64.wrap (IntKind.u64.wrap a*b/18446744073709551616-b))=hiv (a*b):=by
 have e:IntKind.u64.wrap a=a+18446744073709551616:=by rw [IntKind.wrap_u64];omega
 rw [e,Int.add_mul,IntKind.wrap_u64]
 generalize a*b=p
 unfold wrap64 hiv;omega
theorem times_hi' (a b:Int):wrap64 (a*b/18446744073709551616)=hiv (a*b):=by
 unfold wrap64 hiv;omega
def cmpi (a b:Int):Int:=if a<b then -1 else if a=b then 0 else 1
theorem sv_inj (x y:Int):(hiv x=hiv y∧lov x=lov y)↔sv x=sv y:=by
 unfold sv
 have:=lov_bd x;have:=lov_bd y
 constructor
 ·intro ⟨a,b⟩;rw [a,b]
 ·intro h;omega
theorem sv_lt (x y:Int):sv x<sv y↔(hiv x<hiv y∨(hiv x=hiv y∧lov x<lov y)):=by
 unfold sv
 have:=lov_bd x;have:=lov_bd y
 omega
end Go.Proofs.YtinefkljjnepjabGreat
namespace Go.Proofs.YtinefkljjnepjabGreat
open Go.RowKit
set_option linter.unusedVariables false
def cr (x y:Int) (k:Nat):Int:=(x%65536^k+y%65536^k)/65536^k
theorem pw (k:Nat):(0:Int)<65536^k:=Int.pow_pos (by decide)
end Go.Proofs.YtinefkljjnepjabGreat
namespace Go.Proofs.YtinefkljjnepjabGreat
open Go.RowKit
set_option linter.unusedVariables false
def mc (a y:Int) (k:Nat):Int:=a*(y%65536^k)/65536^k
end Go.Proofs.YtinefkljjnepjabGreat
namespace Go.Proofs.YtinefkljjnepjabGreat
open Go.RowKit
set_option linter.unusedVariables false
theorem p2 (k:Nat):(0:Int)<2^k:=Int.pow_pos (by decide)
def bt (u:Int) (e:Nat):Int:=u/2^e%2
end Go.Proofs.YtinefkljjnepjabGreat
namespace Go.Proofs.YtinefkljjnepjabGreat
set_option linter.unusedVariables false
theorem div_of {b q r:Int} (r0:0≤r) (r1:r<b):(b*q+r)/b=q:=by
 rw [Int.add_comm,Int.add_mul_ediv_left _ _ (by omega),Int.ediv_eq_zero_of_lt r0 r1]
 omega
structure Parts5 (num den d whole rest x y one a two b:Int):Prop where
 w0:0≤whole
 r0:0≤rest
 r1:rest<den
 ew:num=den*whole+rest
 ex:x=rest/2*d
 ey:y=rest/2*d+rest%2*d
 x0:0≤x
 y0:0≤y
 e1:x=den*one+a
 e2:y=den*two+b
 a0:0≤a
 a1:a<den
 b0:0≤b
 b1:b<den
 o0:0≤one
 t0:0≤two
 lt:one+two≤d
 xs:x<340282366920938463463374607431768211456
theorem Parts5.sum {num den d whole rest x y one a two b:Int} (p:Parts5 num den d whole rest x y one a two b) (d0:0<den):num*d/den=whole*d+(if den-b≤a then one+two+1 else one+two):=by
 have e:num*d=den*(whole*d+(one+two))+(a+b):=by
  have h1:num*d=den*(whole*d)+rest*d:=by rw [p.ew,Int.add_mul,Int.mul_assoc]
  have h2:rest*d=x+y:=by
   rw [p.ex,p.ey,←Int.add_mul,←Int.add_mul]
   congr 1;omega
  have h3:=p.e1
  have h4:=p.e2
  rw [h1,h2,h3,h4,Int.mul_add,Int.mul_add]
  omega
 have a0:=p.a0;have a1:=p.a1;have b0:=p.b0;have b1:=p.b1
 split
 ·rename_i h
  have e':num*d=den*(whole*d+(one+two+1))+(a+b-den):=by
   have q:den*(whole*d+(one+two+1))=den*(whole*d+(one+two))+den:=by
    rw [←Int.add_assoc (whole*d),Int.mul_add den _ 1,Int.mul_one]
   omega
  rw [e',div_of (by omega) (by omega)]
 ·rename_i h
  rw [e,div_of (by omega) (by omega)]
end Go.Proofs.YtinefkljjnepjabGreat
