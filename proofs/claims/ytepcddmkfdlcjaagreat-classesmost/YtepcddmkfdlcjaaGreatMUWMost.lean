/- ClassesMost: the document's Most, and the walk. -/
import Derived.Test.YtepcddmkfdlcjaaGreatMUShown
namespace Go.Proofs.YtepcddmkfdlcjaaGreat
open Go.RowKit
set_option linter.unusedVariables false
theorem mostV_ok {buf:Int} {c:Nat} (h:1≤buf∧buf≤4294967296) (hc:c<40):mostV buf (c:Int)=min (buf*2^c) 4294967296:=by
 unfold mostV
 rw [if_pos ⟨h,by omega,by omega⟩]
 simp
theorem most_next {buf:Int} {c:Nat} (h:1≤buf∧buf≤4294967296) (hc:c<39):mostV buf (c:Int)≤mostV buf ((c+1:Nat):Int)∧mostV buf ((c+1:Nat):Int)≤2*mostV buf (c:Int)∧mostV buf ((c+1:Nat):Int)≤4294967296∧0≤mostV buf (c:Int)∧mostV buf (c:Int)≤4294967296:=by
 rw [mostV_ok h (by omega),mostV_ok h (by omega)]
 have p:(0:Int)<2^c:=Int.pow_pos (by decide)
 have e:buf*2^(c+1)=2*(buf*2^c):=by rw [Int.pow_succ];rw [←Int.mul_assoc];omega
 have q:(0:Int)<buf*2^c:=Int.mul_pos (by omega) p
 rw [e]
 omega
set_option maxRecDepth 10000 in
set_option maxHeartbeats 2000000 in
theorem rmost15 (buf cl:Int) (w:World) :
  Calls Tryz.prog 27 #[.int .i64 buf, .int .i64 cl] w fun e w'=>e=.returned (.int .i64 (mostV buf cl))∧w'=w:=by
 by_cases q:(1≤buf∧buf≤4294967296)∧0≤cl∧cl<40
 ·obtain ⟨c,rfl⟩:∃ c:Nat,cl=c:=⟨cl.toNat,by omega⟩
  obtain ⟨⟨q1,q2⟩,q3,q4⟩:=q
  have t1:decide (buf<1)=false:=by simpa using q1
  have t2:decide (4294967296<buf)=false:=by simpa using q2
  have t3:decide ((c:Int)<0)=false:=by simp
  have t4:decide ((40:Int)≤(c:Int))=false:=by simpa using q4
  have n40:¬ 40≤c:=by omega
  have MV:=mostV_ok ⟨q1,q2⟩ (show c<40 by omega)
  obtain ⟨A,hA⟩:∃ A,mostV buf (c:Int)=A:=⟨_,rfl⟩
  rw [hA] at MV ⊢
  have RES:Aside (A=min (buf*2^c) 4294967296):=MV
  clear MV hA q3 q4
  have PW:Hid (∀ i:Nat,(0:Int)<2^i):=fun i=>Int.pow_pos (by decide)
  go_enter Tryz.func27,Tryz.ntmps27
  go_wp2_with fail
  go_loopg [0,5] c (fun gg s0 s5 wr=>∃ (i:Nat) (b:Int),s0=.int .i64 b∧s5=.int .i64 (i:Int)∧i≤c∧c-i≤gg∧1≤b∧b≤4294967296∧Aside (b=buf*2^i)∧wr=w)
  case atStart=>exact ⟨0,buf,rfl,rfl,Nat.zero_le _,by omega,q1,q2,(show Aside _ by show _=_;simp),rfl⟩
  case round =>
   obtain ⟨i,b,rfl,rfl,a1,a2,b1,b2,EB,hw⟩:=hrel
   subst hw
   by_cases hlt:i<c
   ·have hlt':(i:Int)<(c:Int):=by omega
    by_cases d:2147483648≤b
    ·have t5:decide (2147483648≤b)=true:=by simpa using d
     have e:A=4294967296:=by
      rw [RES.out]
      have e1:buf*2^c=b*2^(c-i):=by rw [EB.out,Int.mul_assoc,←Int.pow_add,show i+(c-i)=c by omega]
      have e2:(2:Int)≤2^(c-i):=by
       obtain ⟨m,hm⟩:∃ m,c-i=m+1:=⟨c-i-1,by omega⟩
       rw [hm,Int.pow_succ]
       have:=PW.out m
       omega
      have e3:b*2≤b*2^(c-i):=Int.mul_le_mul_of_nonneg_left e2 (by omega)
      omega
     subst e
     clear d RES EB
     go_wp2_with fail
     go_ret
     exact ⟨rfl,rfl⟩
    ·have t5:decide (2147483648≤b)=false:=by simpa using d
     have EB':Aside (2*b=buf*2^(i+1)):=by
      show _=_
      rw [EB.out,Int.pow_succ,←Int.mul_assoc buf (2^i) 2,Int.mul_comm]
     have b3:1≤2*b:=by omega
     have b4:2*b≤4294967296:=by omega
     clear d EB
     go_wp2_with fail
     go_roundg (c-(i+1))
     case measure=>omega
     case rel=>exact ⟨i+1,2*b,by go_num,by go_num,by omega,Nat.le_refl _,b3,b4,EB',rfl⟩
   ·have ei:i=c:=by omega
    subst ei
    have e:A=b:=by rw [RES.out,←EB.out];omega
    subst e
    clear RES EB
    go_wp2_with fail
    go_ret
    exact ⟨rfl,rfl⟩
 ·have MV:mostV buf cl=0:=by unfold mostV;rw [if_neg q]
  rw [MV]
  have cs:buf<1∨(¬ buf<1∧4294967296<buf)∨(¬ buf<1∧¬ 4294967296<buf∧cl<0)∨(¬ buf<1∧¬ 4294967296<buf∧¬ cl<0∧40≤cl):=by omega
  clear q MV
  rcases cs with a | ⟨a,b⟩ | ⟨a,b,c⟩ | ⟨a,b,c,d⟩
  ·have t1:decide (buf<1)=true:=by simpa using a
   clear a
   go_enter Tryz.func27,Tryz.ntmps27
   go_wp2_with fail
   go_ret
   exact ⟨rfl,rfl⟩
  ·have t1:decide (buf<1)=false:=by simpa using a
   have t2:decide (4294967296<buf)=true:=by simpa using b
   clear a b
   go_enter Tryz.func27,Tryz.ntmps27
   go_wp2_with fail
   go_ret
   exact ⟨rfl,rfl⟩
  ·have t1:decide (buf<1)=false:=by simpa using a
   have t2:decide (4294967296<buf)=false:=by simpa using b
   have t3:decide (cl<0)=true:=by simpa using c
   clear a b c
   go_enter Tryz.func27,Tryz.ntmps27
   go_wp2_with fail
   go_ret
   exact ⟨rfl,rfl⟩
  ·have t1:decide (buf<1)=false:=by simpa using a
   have t2:decide (4294967296<buf)=false:=by simpa using b
   have t3:decide (cl<0)=false:=by simpa using c
   have t4:decide (40≤cl)=true:=by simpa using d
   clear a b c d
   go_enter Tryz.func27,Tryz.ntmps27
   go_wp2_with fail
   go_ret
   exact ⟨rfl,rfl⟩
set_option maxRecDepth 10000 in
set_option maxHeartbeats 2000000 in
theorem most_walk {HR:HRt} (H:RunC HR) (buf cl:Int) (w:World) :
  Calls Tryz.prog 5 #[.int .i64 buf, .int .i64 cl] w fun e w'=>e=.returned (.bool true)∧Gw w w':=by
 have SH:Hid (Calls Tryz.prog 9 #[] w fun e w'=>e=.returned (.bool true)∧Gw w w'):=shown15 H w
 have MP:Hid (∀ (c:Int) W,Calls Tryz.prog 26 #[.int .i64 buf, .int .i64 c] W fun e w'=>e=.returned (.int .i64 (mostV buf c))∧w'=W):=fun c W=>most15 buf c W
 have MD:Hid (∀ W,Calls Tryz.prog 27 #[.int .i64 buf, .int .i64 cl] W fun e w'=>e=.returned (.int .i64 (mostV buf cl))∧w'=W):=fun W=>rmost15 buf cl W
 have CS:(buf<1∨(¬ buf<1∧4294967296<buf)∨(¬ buf<1∧¬ 4294967296<buf∧cl<0)∨(¬ buf<1∧¬ 4294967296<buf∧¬ cl<0∧39≤cl))∨(¬ buf<1∧¬ 4294967296<buf∧¬ cl<0∧¬ 39≤cl):=by omega
 have LAW:Hid ((¬ buf<1∧¬ 4294967296<buf∧¬ cl<0∧¬ 39≤cl)→mostV buf cl≤mostV buf (cl+1)∧mostV buf (cl+1)≤2*mostV buf cl∧mostV buf (cl+1)≤4294967296∧0≤mostV buf cl∧mostV buf cl≤4294967296):=fun ⟨a,b,c,d⟩=>by
  obtain ⟨k,rfl⟩:∃ k:Nat,cl=k:=⟨cl.toNat,by omega⟩
  exact most_next (by omega) (by omega)
 obtain ⟨M,hM⟩:∃ M,mostV buf cl=M:=⟨_,rfl⟩
 have MP0:Hid (∀ W,Calls Tryz.prog 26 #[.int .i64 buf, .int .i64 cl] W fun e w'=>e=.returned (.int .i64 M)∧w'=W):=fun W=>by rw [←hM];exact MP.out cl W
 obtain ⟨M1,hM1⟩:∃ M1,mostV buf (cl+1)=M1:=⟨_,rfl⟩
 have MP1:Hid (∀ W,Calls Tryz.prog 26 #[.int .i64 buf, .int .i64 (cl+1)] W fun e w'=>e=.returned (.int .i64 M1)∧w'=W):=fun W=>by rw [←hM1];exact MP.out (cl+1) W
 rw [hM] at MD LAW
 rw [hM1] at LAW
 clear H MP hM hM1
 go_enter Tryz.func5,Tryz.ntmps5
 go_wp2_with fail
 refine Calls.mono SH.out ?_
 rintro e w1 ⟨rfl,g1⟩
 have G1:Aside (Gw w w1):=g1
 clear g1 SH
 go_wp2_with fail
 refine Calls.mono (MP0.out w1) ?_
 rintro e w2 ⟨rfl,hw⟩
 have hw':w1=w2:=hw.symm
 subst hw'
 go_wp2_with fail
 refine Calls.mono (MD.out w1) ?_
 rintro e w2 ⟨rfl,hw⟩
 have hw':w1=w2:=hw.symm
 subst hw'
 clear MP0 MD
 rcases CS with (a | ⟨a,b⟩ | ⟨a,b,c⟩ | ⟨a,b,c,d⟩) | ⟨a,b,c,d⟩
 ·have t1:decide (buf<1)=true:=by simpa using a
  clear a LAW MP1
  go_wp2_with fail
  go_ret
  exact ⟨rfl,G1.out⟩
 ·have t1:decide (buf<1)=false:=by simpa using a
  have t2:decide (4294967296<buf)=true:=by simpa using b
  clear a b LAW MP1
  go_wp2_with fail
  go_ret
  exact ⟨rfl,G1.out⟩
 ·have t1:decide (buf<1)=false:=by simpa using a
  have t2:decide (4294967296<buf)=false:=by simpa using b
  have t3:decide (cl<0)=true:=by simpa using c
  clear a b c LAW MP1
  go_wp2_with fail
  go_ret
  exact ⟨rfl,G1.out⟩
 ·have t1:decide (buf<1)=false:=by simpa using a
  have t2:decide (4294967296<buf)=false:=by simpa using b
  have t3:decide (cl<0)=false:=by simpa using c
  have t4:decide (39≤cl)=true:=by simpa using d
  clear a b c d LAW MP1
  go_wp2_with fail
  go_ret
  exact ⟨rfl,G1.out⟩
 ·obtain ⟨l1,l2,l3,l4,l5⟩:=LAW.out ⟨a,b,c,d⟩
  have t1:decide (buf<1)=false:=by simpa using a
  have t2:decide (4294967296<buf)=false:=by simpa using b
  have t3:decide (cl<0)=false:=by simpa using c
  have t4:decide (39≤cl)=false:=by simpa using d
  have wc:IntKind.i64.wrap (cl+1)=cl+1:=by rw [IntKind.wrap_i64];omega
  have wm:IntKind.i64.wrap (2*M)=2*M:=by rw [IntKind.wrap_i64];omega
  have u1:decide (M≤M1)=true:=by simpa using l1
  have u2:decide (M1≤2*M)=true:=by simpa using l2
  have u3:decide (M1≤4294967296)=true:=by simpa using l3
  clear a b c d LAW l1 l2 l3 l4 l5
  go_wp2_with fail
  refine Calls.mono (MP1.out w1) ?_
  rintro e w2 ⟨rfl,hw⟩
  have hw':w1=w2:=hw.symm
  subst hw'
  go_wp2_with fail
  go_ret
  exact ⟨rfl,G1.out⟩
end Go.Proofs.YtepcddmkfdlcjaaGreat
