/- What every walk here keeps: old memory as it was; the shelf beside it. Plain arithmetic: a quotient of two words by one, digit by digit: no Go in it. math/bits.Div64 gives the quotient and the rest of a number of two words by one word, where the quotient is one word. wide.Div gives the quotient and the rest, of every number from 0 on; wide.Of. -/
import Derived.Deep.DrawnRows
import Derived.Lib.BitFns
import Derived.Shelf.Bits.Mul64
import Derived.Shelf.Small.Bits
import Derived.Shelf.Spec.BitsCarry
import Derived.Shelf.Strconv.Itoa0
import Derived.Test.YtpoohadckhphpaaGreatProg
import Derived.Test.YtpoohadckhphpaaGreatBPFg
set_option linter.unusedVariables false
namespace Go.Proofs.YtpoohadckhphpaaGreat
open Go.RowKit
theorem moved (hi lo y:Int) (s:Nat) (hs:s<=63) (h0:0<=hi) (h1:hi<y) (l0:0<=lo) (l1:lo<18446744073709551616) (hY:y*2^s<18446744073709551616) :
  bits .or .u64 (IntKind.u64.wrap (hi*2^s)) (lo/2^(64-s))=hi*2^s+lo/2^(64-s) /\
  (hi*2^s+lo/2^(64-s))*18446744073709551616+IntKind.u64.wrap (lo*2^s)=(hi*18446744073709551616+lo)*2^s /\
  0<=lo/2^(64-s):=by
 have hP:(0:Int)<2^s:=Int.pow_pos (by decide)
 have hP':(0:Int)<2^(64-s):=Int.pow_pos (by decide)
 have hPP:(2:Int)^(64-s)*2^s=18446744073709551616:=by
  rw [<-Int.pow_add,show 64-s+s=64 by omega];decide
 have hPle:(2:Int)^s<=18446744073709551616:=by
  have h1':(1:Int)*2^s<=2^(64-s)*2^s:=Int.mul_le_mul_of_nonneg_right (by omega) (by omega)
  omega
 have hhi:hi*2^s<y*2^s:=Int.mul_lt_mul_of_pos_right h1 hP;have hh0:0<=hi*2^s:=Int.mul_nonneg h0 (by omega)
 have hmod:hi*2^s%2^s=0:=Int.mul_emod_left _ _;have d0:0<=lo/2^(64-s):=Int.ediv_nonneg l0 (by omega)
 have d1:lo/2^(64-s)<2^s:=Int.ediv_lt_of_lt_mul hP' (by rw [Int.mul_comm,hPP];exact l1)
 have e:=Int.mul_ediv_add_emod lo (2^(64-s));have m0:=Int.emod_nonneg lo (b:=2^(64-s)) (by omega)
 have m1:=Int.emod_lt_of_pos lo hP';have ew:IntKind.u64.wrap (hi*2^s)=hi*2^s:=by rw [IntKind.wrap_u64];omega
 refine ⟨?_,?_,d0⟩
 ·rw [ew]
  exact bits_join .u64 64 (by decide) (fun n a b=>by rw [IntKind.wrap_u64];omega) s _ _ hh0 hmod (by omega) d0 d1 (by omega)
 ·have e2:lo*2^s=lo/2^(64-s)*18446744073709551616+lo%2^(64-s)*2^s:=by
   have:lo*2^s=(2^(64-s)*(lo/2^(64-s))+lo%2^(64-s))*2^s:=by rw [e]
   rw [this,Int.add_mul,Int.mul_comm (2^(64-s)) (lo/2^(64-s)),Int.mul_assoc,hPP]
  have r1:lo%2^(64-s)*2^s<18446744073709551616:=by rw [<-hPP];exact Int.mul_lt_mul_of_pos_right m1 hP
  have r0:0<=lo%2^(64-s)*2^s:=Int.mul_nonneg m0 (by omega)
  rw [IntKind.wrap_u64,e2,Int.add_mul,Int.add_mul,e2,Int.mul_assoc hi,Int.mul_comm (2^s) 18446744073709551616,<-Int.mul_assoc];generalize lo%2^(64-s)*2^s=r at *;omega
open Go.RowKit Go.Shelf
end Go.Proofs.YtpoohadckhphpaaGreat
namespace Go.Proofs.YtpoohadckhphpaaGreat
open Go.RowKit Go.Shelf
attribute [local go_sem] frozen?_alloc_cells frozen?_new
end Go.Proofs.YtpoohadckhphpaaGreat
namespace Go.Proofs.YtpoohadckhphpaaGreat
open Go.RowKit Go.Shelf
def kr (wd:Nat):Nat:=if 1024<wd%2048\/wd%2048=1024/\wd/2048%2=1 then wd/2048+1 else wd/2048
end Go.Proofs.YtpoohadckhphpaaGreat
