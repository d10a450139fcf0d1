/- ClassesMost: the document's Most, and the walk. -/
import Derived.Test.YtpoohadckhphpaaGreatBUClone
import Derived.Test.YtpoohadckhphpaaGreatBPEl
set_option linter.unusedVariables false
set_option maxHeartbeats 2000000
set_option maxRecDepth 10000
open Go.Proofs.Tryz
namespace Go.Proofs.YtpoohadckhphpaaGreat
open Go.RowKit
theorem mostV_ok {buf:Int} {c:Nat} (h:1<=buf/\buf<=4294967296) (hc:c<40):mostV buf (c:Int)=min (buf*2^c) 4294967296:=by
 unfold mostV;rw [if_pos ⟨h,by omega,by omega⟩]
 simp
theorem rmost15 (buf cl:Int) (w:World) :
  Calls prog 93 #[.int .i64 buf,.int .i64 cl] w fun e w'=>e=.returned (.int .i64 (mostV buf cl))/\w'=w:=by
 by_cases q:(1<=buf/\buf<=4294967296)/\0<=cl/\cl<40
 ·obtain ⟨c,rfl⟩:∃ c:Nat,cl=c:=⟨cl.toNat,by omega⟩
  obtain ⟨⟨q1,q2⟩,q3,q4⟩:=q;have t1:decide (buf<1)=false:=by simpa using q1
  have t2:decide (4294967296<buf)=false:=by simpa using q2
  have t3:decide ((c:Int)<0)=false:=by simp
  have t4:decide ((40:Int)<=(c:Int))=false:=by simpa using q4
  have n40:¬ 40<=c:=by omega
  have MV:=mostV_ok ⟨q1,q2⟩ (show c<40 by omega)
  obtain ⟨A,hA⟩:∃ A,mostV buf (c:Int)=A:=⟨_,rfl⟩;rw [hA] at MV ⊢;have RES:Aside _:=MV;clear MV hA q3 q4;have PW:Hid (∀ i:Nat,(0:Int)<2^i):=fun i=>Int.pow_pos (by decide)
  go_enter func93,ntmps93;go_wp2_with fail;go_loopg [0,5] c (fun gg s0 s5 wr=>∃ (i:Nat) (b:Int),s0=.int .i64 b/\s5=.int .i64 (i:Int)/\i<=c/\c-i<=gg/\1<=b/\b<=4294967296/\Aside (b=buf*2^i)/\wr=w)
  case atStart=>exact ⟨0,buf,rfl,rfl,Nat.zero_le _,by omega,q1,q2,(show Aside _ by show _=_;simp),rfl⟩
  case round =>
   obtain ⟨i,b,rfl,rfl,a1,a2,b1,b2,EB,hw⟩:=hrel;subst hw;by_cases hlt:i<c
   ·have hlt':(i:Int)<(c:Int):=by omega
    by_cases d:2147483648<=b
    ·have t5:decide (2147483648<=b)=true:=by simpa using d
     have e:A=4294967296:=by
      rw [RES.out];have e1:buf*2^c=b*2^(c-i):=by rw [EB.out,Int.mul_assoc,<-Int.pow_add,show i+(c-i)=c by omega]
      have e2:(2:Int)<=2^(c-i):=by
       obtain ⟨m,hm⟩:∃ m,c-i=m+1:=⟨c-i-1,by omega⟩
       rw [hm,Int.pow_succ];have:=PW.out m;omega
      have e3:b*2<=b*2^(c-i):=Int.mul_le_mul_of_nonneg_left e2 (by omega)
      omega
     subst e;clear d RES EB;go_wp2_with fail;go_ret;exact ⟨rfl,rfl⟩
    ·have t5:decide (2147483648<=b)=false:=by simpa using d
     have EB':Aside (2*b=buf*2^(i+1)):=by
      show _=_;rw [EB.out,Int.pow_succ,<-Int.mul_assoc buf (2^i) 2,Int.mul_comm]
     have b3:1<=2*b:=by omega
     have b4:2*b<=4294967296:=by omega
     clear d EB;go_wp2_with fail;go_roundg (c-(i+1))
     case measure=>omega
     case rel=>exact ⟨i+1,2*b,by go_num,by go_num,by omega,Nat.le_refl _,b3,b4,EB',rfl⟩
   ·have ei:i=c:=by omega
    subst ei;have e:A=b:=by rw [RES.out,<-EB.out];omega
    subst e;clear RES EB;go_wp2_with fail;go_ret;exact ⟨rfl,rfl⟩
 ·have MV:mostV buf cl=0:=by unfold mostV;rw [if_neg q]
  rw [MV];have cs:buf<1\/(¬ buf<1/\4294967296<buf)\/(¬ buf<1/\¬ 4294967296<buf/\cl<0)\/(¬ buf<1/\¬ 4294967296<buf/\¬ cl<0/\40<=cl):=by omega
  clear q MV;rcases cs with a | ⟨a,b⟩ | ⟨a,b,c⟩ | ⟨a,b,c,d⟩
  ·have t1:decide (buf<1)=true:=by simpa using a
   clear a;go_enter func93,ntmps93;go_wp2_with fail;go_ret;exact ⟨rfl,rfl⟩
  ·have t1:decide (buf<1)=false:=by simpa using a
   have t2:decide (4294967296<buf)=true:=by simpa using b
   clear a b;go_enter func93,ntmps93;go_wp2_with fail;go_ret;exact ⟨rfl,rfl⟩
  ·have t1:decide (buf<1)=false:=by simpa using a
   have t2:decide (4294967296<buf)=false:=by simpa using b
   have t3:decide (cl<0)=true:=by simpa using c
   clear a b c;go_enter func93,ntmps93;go_wp2_with fail;go_ret;exact ⟨rfl,rfl⟩
  ·have t1:decide (buf<1)=false:=by simpa using a
   have t2:decide (4294967296<buf)=false:=by simpa using b
   have t3:decide (cl<0)=false:=by simpa using c
   have t4:decide (40<=cl)=true:=by simpa using d
   clear a b c d;go_enter func93,ntmps93;go_wp2_with fail;go_ret;exact ⟨rfl,rfl⟩
end Go.Proofs.YtpoohadckhphpaaGreat
