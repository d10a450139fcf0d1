/- Near: the program's answer is the float nearest to the fraction. -/
import Derived.Test.YtemijdhemdhclaaGreatNPFg
import Derived.Test.YtemijdhemdhclaaGreatNWDiv
set_option linter.unusedVariables false
set_option maxHeartbeats 400000
open Go.Proofs.Tryz
namespace Go.Proofs.YtemijdhemdhclaaGreat
open Go.RowKit Go.Shelf
theorem or_one_nat (i:Nat):i ||| 1=i/2*2+1:=by
 rcases Nat.mod_two_eq_zero_or_one i with h | h
 ·rw [nat_join 1 i 1 h (by decide)];omega
 ·have e:i=(i/2*2) ||| 1:=by rw [nat_join 1 _ 1 (by omega) (by decide)];omega
  have e2:i ||| 1=((i/2*2) ||| 1) ||| 1:=by rw [<-e]
  rw [e2,Nat.or_assoc,show 1 ||| 1=1 from rfl,nat_join 1 _ 1 (by omega) (by decide)]
theorem or_one (i:Nat) (h:i<18446744073709551616):bits .or .u64 (i:Int) 1=((i/2*2+1:Nat):Int):=by
 have:=u64_or_nat i 1 h (by decide)
 rw [or_one_nat] at this;exact this
def dvd (N D:Nat):Nat:=if N<D then N*18446744073709551616 else N*9223372036854775808
def qw (N D:Nat):Nat:=if dvd N D%D=0 then dvd N D/D else dvd N D/D/2*2+1
def qx (N D:Nat):Int:=if N<D then -64 else -63
theorem dvd_bd (N D:Nat) (n0:9223372036854775808<=N) (n1:N<18446744073709551616) (d0:9223372036854775808<=D) (d1:D<18446744073709551616) :
  9223372036854775808<=dvd N D/D/\dvd N D/D<18446744073709551616:=by
 have hD:0<D:=by omega
 unfold dvd;split
 ·exact ⟨(Nat.le_div_iff_mul_le hD).2 (by omega),Nat.div_lt_of_lt_mul (by omega)⟩
 ·exact ⟨(Nat.le_div_iff_mul_le hD).2 (by omega),Nat.div_lt_of_lt_mul (by omega)⟩
theorem quotient_any (N D:Nat) (n0:9223372036854775808<=N) (n1:N<18446744073709551616) (d0:9223372036854775808<=D) (d1:D<18446744073709551616) (w:World) :
  Calls prog 149 #[.int .u64 N,.int .u64 D] w fun e w'=>e=.returned (.tuple #[.int .u64 (qw N D),.int .i64 (qx N D)])/\∃ n,w'=w.drewN n:=by
 obtain ⟨q0,q1⟩:=dvd_bd N D n0 n1 d0 d1;have ho:=or_one (dvd N D/D) q1;unfold qw qx;unfold dvd at *;by_cases h:N<D
 ·rw [if_pos h] at *
  have e1:((N:Int)*18446744073709551616+0)/D=((N*18446744073709551616/D:Nat):Int):=by rw [Int.add_zero,Int.natCast_ediv,Int.natCast_mul];rfl
  have e2:((N:Int)*18446744073709551616+0)%D=((N*18446744073709551616%D:Nat):Int):=by rw [Int.add_zero,Int.natCast_emod,Int.natCast_mul];rfl
  have dv:=fun w=>div64_any N 0 D (by omega) (by omega) (by omega) (by omega) (by omega) w
  rw [e1,e2] at dv;clear e1 e2;generalize N*18446744073709551616/D=q at *;generalize N*18446744073709551616%D=r at *;by_cases hr:r=0
  ·rw [if_pos hr]
   have hr':((r:Int) == 0)=true:=by simp;omega
   go_enter func149,ntmps149;go_wp2_with (go_at_call 163;refine (dv _).mono ?_;rintro e w' ⟨rfl,n,rfl⟩);go_ret2;exact ⟨rfl,_,rfl⟩
  ·rw [if_neg hr]
   have hr':((r:Int) == 0)=false:=by simp;omega
   go_enter func149,ntmps149;go_wp2_with (go_at_call 163;refine (dv _).mono ?_;rintro e w' ⟨rfl,n,rfl⟩);go_ret2;exact ⟨rfl,_,rfl⟩
 ·rw [if_neg h] at *
  have eq:((N:Int)/2)*18446744073709551616+IntKind.u64.wrap ((N:Int)*9223372036854775808)=(N:Int)*9223372036854775808:=by rw [IntKind.wrap_u64];omega
  have e1:((N:Int)*9223372036854775808)/D=((N*9223372036854775808/D:Nat):Int):=by rw [Int.natCast_ediv,Int.natCast_mul];rfl
  have e2:((N:Int)*9223372036854775808)%D=((N*9223372036854775808%D:Nat):Int):=by rw [Int.natCast_emod,Int.natCast_mul];rfl
  obtain ⟨w0,w1⟩:=u64w_bd ((N:Int)*9223372036854775808);have dv:=fun w=>div64_any ((N:Int)/2) (IntKind.u64.wrap ((N:Int)*9223372036854775808)) D (by omega) (by omega) w0 w1 (by omega) w
  rw [eq,e1,e2] at dv;clear e1 e2 eq w0 w1;generalize N*9223372036854775808/D=q at *;generalize N*9223372036854775808%D=r at *;by_cases hr:r=0
  ·rw [if_pos hr]
   have hr':((r:Int) == 0)=true:=by simp;omega
   go_enter func149,ntmps149;go_wp2_with (go_at_call 163;refine (dv _).mono ?_;rintro e w' ⟨rfl,n,rfl⟩);go_ret2;exact ⟨rfl,_,rfl⟩
  ·rw [if_neg hr]
   have hr':((r:Int) == 0)=false:=by simp;omega
   go_enter func149,ntmps149;go_wp2_with (go_at_call 163;refine (dv _).mono ?_;rintro e w' ⟨rfl,n,rfl⟩);go_ret2;exact ⟨rfl,_,rfl⟩
def kr (wd:Nat):Nat:=if 1024<wd%2048\/wd%2048=1024/\wd/2048%2=1 then wd/2048+1 else wd/2048
theorem rounded_any (wd:Nat) (w0:9223372036854775808<=wd) (w1:wd<18446744073709551616) (f:Nat) (x:Int) (hf:(f:Int)=x+1085) (f1:f<2000) (w:World) :
  Calls prog 150 #[.int .u64 wd,.int .i64 x] w fun e w'=>e=.returned (.float .f64 (f*4503599627370496+kr wd))/\w'=w:=by
 have e1:(wd:Int)/2048=((wd/2048:Nat):Int):=rfl;have e2:(wd:Int)%2048=((wd%2048:Nat):Int):=rfl;obtain rfl:x=(f:Int)-1085:=by omega
 have k0:wd/2048<9007199254740992:=by omega
 unfold kr;generalize wd/2048=k at *;generalize wd%2048=l at *;clear hf;by_cases h1:1024<l
 ·rw [if_pos (.inl h1)]
  go_enter func150,ntmps150;go_wp2_with (simp only [f64from]);go_ret;exact ⟨congrArg (fun n=>Ending.returned (Value.float FloatKind.f64 n)) (by omega),rfl⟩
 ·by_cases h2:l=1024
  ·have h2':((l:Int) == 1024)=true:=by simp;omega
   by_cases h3:k%2=1
   ·have h3':((k:Int)%2 == 1)=true:=by simp;omega
    rw [if_pos (.inr ⟨h2,h3⟩)];go_enter func150,ntmps150;go_wp2_with (simp only [f64from]);go_ret;exact ⟨congrArg (fun n=>Ending.returned (Value.float FloatKind.f64 n)) (by omega),rfl⟩
   ·have h3':((k:Int)%2 == 1)=false:=by simp;omega
    rw [if_neg (by omega)]
    go_enter func150,ntmps150;go_wp2_with (simp only [f64from]);go_ret;exact ⟨congrArg (fun n=>Ending.returned (Value.float FloatKind.f64 n)) (by omega),rfl⟩
  ·have h2':((l:Int) == 1024)=false:=by simp;omega
   rw [if_neg (by omega)]
   go_enter func150,ntmps150;go_wp2_with (simp only [f64from]);go_ret;exact ⟨congrArg (fun n=>Ending.returned (Value.float FloatKind.f64 n)) (by omega),rfl⟩
theorem kr_aux (q l r D K M:Nat) (hl:q%2048=l) (hr:r<D) (c1:l<1024->M+D<=K) (c2:l=1024->M=K) (c3:1024<l->K<M) :
  (if 1024<(if r=0 then q else q/2*2+1)%2048\/(if r=0 then q else q/2*2+1)%2048=1024/\(if r=0 then q else q/2*2+1)/2048%2=1 then (if r=0 then q else q/2*2+1)/2048+1 else (if r=0 then q else q/2*2+1)/2048) =
   q/2048+(decide (2*K<2*(M+r))||(2*K == 2*(M+r)&&q/2048%2 == 1)).toNat:=by
 have hb:(decide (2*K<2*(M+r))||(2*K == 2*(M+r)&&q/2048%2 == 1))=decide (K<M+r\/K=M+r/\q/2048%2=1):=by
  by_cases a:K<M+r
  ·have:2*K<2*(M+r):=by omega
   simp [a,this]
  ·by_cases b:K=M+r
   ·subst b;by_cases c:q/2048%2=1<;>simp [c]
   ·have n1:¬ 2*K<2*(M+r):=by omega
    have n2:(2*K == 2*(M+r))=false:=by rw [beq_eq_false_iff_ne];omega
    rw [n2,decide_eq_false n1,decide_eq_false (by omega)];rfl
 rw [hb];by_cases h0:r=0
 ·rw [if_pos h0]
  by_cases g:1024<q%2048\/q%2048=1024/\q/2048%2=1
  ·rw [if_pos g,decide_eq_true (by omega)];rfl
  ·rw [if_neg g,decide_eq_false (by omega)];rfl
 ·rw [if_neg h0]
  have s1:(q/2*2+1)/2048=q/2048:=by omega
  have s2:(q/2*2+1)%2048=l/2*2+1:=by omega
  rw [s1,s2];by_cases g:1024<=l
  ·rw [if_pos (by omega),decide_eq_true (by omega)];rfl
  ·rw [if_neg (by omega),decide_eq_false (by omega)];rfl
theorem kr_rne (N D:Nat) (hD:0<D):kr (qw N D)=rne (dvd N D) (D*2048):=by
 unfold kr qw rne;generalize dvd N D=T;have hm:=Nat.mod_lt T hD;have q1:T/(D*2048)=T/D/2048:=by rw [Nat.div_div_eq_div_mul]
 have q2:T%(D*2048)=D*(T/D%2048)+T%D:=by rw [Nat.mod_mul];omega
 have q3:D*2048=2*(D*1024):=by omega
 rw [q1,q2,q3];generalize T/D=q at *;generalize T%D=r at *;have:=kr_aux q (q%2048) r D (D*1024) (D*(q%2048)) rfl hm
  (fun c=>by have:=Nat.mul_le_mul_left D (show q%2048+1<=1024 by omega);rw [Nat.mul_add,Nat.mul_one] at this;exact this)
  (fun c=>by rw [c]) (fun c=>Nat.mul_lt_mul_of_pos_left c hD)
 exact this
theorem lz_any (y:Nat) (s:Nat) (y1:y<18446744073709551616) (es:(64-(Lib.bitLen y:Int))=(s:Int)) (w:World) :
  Calls prog 148 #[.int .u64 y] w fun e w'=>e=.returned (.int .i64 (s:Int))/\w'=w:=by
 have:=Tryz.bits_LeadingZeros64 y w (by omega) (by omega)
 rw [Int.toNat_natCast,es] at this;exact this
theorem leadn (y:Nat) (y0:0<y) (y1:y<18446744073709551616) :
  ∃ s:Nat,s<=63/\(64-(Lib.bitLen y:Int))=(s:Int)/\9223372036854775808<=y*2^s/\y*2^s<18446744073709551616:=by
 obtain ⟨s,h1,h2,h3,h4⟩:=lead y (by omega) (by omega)
 rw [Int.toNat_natCast] at h2;have e:((y*2^s:Nat):Int)=(y:Int)*2^s:=by rw [Int.natCast_mul,Int.natCast_pow];rfl
 rw [<-e] at h3 h4;exact ⟨s,h1,h2,by omega,by omega⟩
theorem near_core (num den N D s t wd:Nat) (x:Int) (b:Nat) (hn:num<18446744073709551616) (hd:den<18446744073709551616) (n0:0<num) (d0:0<den) (s1:s<=63) (t1:t<=63) (x0:-64<=x) (x1:x<=-63)
  (eN:IntKind.u64.wrap ((num:Int)*2^s)=N) (eD:IntKind.u64.wrap ((den:Int)*2^t)=D)
  (hs:Hid (∀ w:World,Calls prog 148 #[.int .u64 num] w fun e w'=>e=.returned (.int .i64 (s:Int))/\w'=w))
  (ht:Hid (∀ w:World,Calls prog 148 #[.int .u64 den] w fun e w'=>e=.returned (.int .i64 (t:Int))/\w'=w))
  (hq:Hid (∀ w:World,Calls prog 149 #[.int .u64 N,.int .u64 D] w fun e w'=>e=.returned (.tuple #[.int .u64 wd,.int .i64 x])/\∃ n,w'=w.drewN n))
  (hr:Hid (∀ w:World,Calls prog 150 #[.int .u64 wd,.int .i64 (x+t-s)] w fun e w'=>e=.returned (.float .f64 b)/\w'=w)) (w:World) :
  Calls prog 131 #[.int .u64 num,.int .u64 den] w fun e w'=>e=.returned (.tuple #[.float .f64 b,.int .i64 0])/\∃ n,w'=w.drewN n:=by
 have h1:((den:Int) == 0)=false:=by simp;omega
 have h2:((num:Int) == 0)=false:=by simp;omega
 go_enter func131,ntmps131;go_wp2_with fail;refine (hs.out _).mono ?_;rintro e w' ⟨rfl,rfl⟩;go_wp2_with fail;refine (ht.out _).mono ?_;rintro e w' ⟨rfl,rfl⟩;go_wp2_with fail;go_quiet ((go_at_call 149;exact Calls.quiet_of (hq.out _)));go_wp2_with (go_at_call 150;refine (hr.out _).mono ?_;rintro e w' ⟨rfl,rfl⟩);go_ret2;exact ⟨rfl,_,rfl⟩
theorem qw_bd (N D:Nat) (n0:9223372036854775808<=N) (n1:N<18446744073709551616) (d0:9223372036854775808<=D) (d1:D<18446744073709551616) :
  9223372036854775808<=qw N D/\qw N D<18446744073709551616:=by
 obtain ⟨a,b⟩:=dvd_bd N D n0 n1 d0 d1;unfold qw;split<;>omega
theorem wrap_shl (n s:Nat) (h:n*2^s<18446744073709551616):IntKind.u64.wrap ((n:Int)*2^s)=((n*2^s:Nat):Int):=by
 have e:((n*2^s:Nat):Int)=(n:Int)*2^s:=by rw [Int.natCast_mul,Int.natCast_pow];rfl
 rw [<-e,IntKind.wrap_u64];omega
theorem near_ex (num den:Nat) (hn:num<18446744073709551616) (hd:den<18446744073709551616) (n0:0<num) (d0:0<den) :
  ∃ b,Nr (num*Un) den b/\4318952042648305664<=b/\b<=4895412794951729152 /\
   ∀ w,Calls prog 131 #[.int .u64 num,.int .u64 den] w fun e w'=>e=.returned (.tuple #[.float .f64 b,.int .i64 0])/\∃ n,w'=w.drewN n:=by
 obtain ⟨s,s1,es,s2,s3⟩:=leadn num n0 hn;obtain ⟨t,t1,et,t2,t3⟩:=leadn den d0 hd;obtain ⟨q0,q1⟩:=dvd_bd _ _ s2 s3 t2 t3;obtain ⟨k0,k1⟩:=qw_bd _ _ s2 s3 t2 t3;have hD:0<den*2^t:=by omega
 have ek:=kr_rne (num*2^s) (den*2^t) hD;obtain ⟨k,hk,ex,ed⟩:∃ k:Nat,(k=63\/k=64)/\qx (num*2^s) (den*2^t)=-(k:Int)/\dvd (num*2^s) (den*2^t)=num*2^s*2^k:=by
  unfold qx dvd;split
  ·exact ⟨64,.inr rfl,rfl,rfl⟩
  ·exact ⟨63,.inl rfl,rfl,rfl⟩
 obtain ⟨f,hf⟩:∃ f:Nat,(f:Int)=-(k:Int)+t-s+1085:=⟨(-(k:Int)+t-s+1085).toNat,by omega⟩
 have hg:0<den*2^t*2048:=by omega
 have hq:num*2^s*2^k/(den*2^t*2048)=num*2^s*2^k/(den*2^t)/2048:=by rw [Nat.div_div_eq_div_mul]
 rw [ed] at q0 q1 ek;have nr:=Nr.of_rne (num*2^s*2^k) (den*2^t*2048) f hg (by omega) (.inl (by omega))
 obtain ⟨-,-,-,-,r5,r6,-⟩:=rne_spec (num*2^s*2^k) (den*2^t*2048) hg;rw [<-ek] at nr r5 r6;refine ⟨f*4503599627370496+kr (qw (num*2^s) (den*2^t)),nr.scale hg d0 ?_,by omega,by omega,?_⟩
 ·have e1:num*2^s*2^k*2^f*den=num*den*2^(s+k+f):=by
   rw [Nat.pow_add,Nat.pow_add];ac_rfl
  obtain ⟨j,hj,eU⟩:=Un_ex;have e2:num*Un*(den*2^t*2048)=num*den*2^(j+t+11):=by
   rw [eU,Nat.pow_add,Nat.pow_add,show (2048:Nat)=2^11 from rfl];ac_rfl
  rw [e1,e2,show s+k+f=j+t+11 by omega]
 ·intro w
  refine near_core num den (num*2^s) (den*2^t) s t (qw (num*2^s) (den*2^t)) (-(k:Int)) _ hn hd n0 d0 s1 t1 (by omega) (by omega) (wrap_shl _ _ s3) (wrap_shl _ _ t3)
   (fun w=>lz_any num s hn es w) (fun w=>lz_any den t hd et w) (fun w=>?_) (fun w=>?_) w
  ·have:=quotient_any (num*2^s) (den*2^t) s2 s3 t2 t3 w
   rw [ex] at this;exact this
  ·exact rounded_any _ k0 k1 f _ (by omega) (by omega) w
theorem near_zero_num (den:Nat) (hd:0<den) (w:World) :
  Calls prog 131 #[.int .u64 0,.int .u64 den] w fun e w'=>e=.returned (.tuple #[.float .f64 0,.int .i64 0])/\w'=w:=by
 have h1:((den:Int) == 0)=false:=by simp;omega
 go_enter func131,ntmps131;go_wp2;go_ret2;exact ⟨rfl,rfl⟩
end Go.Proofs.YtemijdhemdhclaaGreat
