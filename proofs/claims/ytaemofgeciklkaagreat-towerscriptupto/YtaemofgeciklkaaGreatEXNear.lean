import Derived.Test.YtaemofgeciklkaaGreatEPFg
import Derived.Test.YtaemofgeciklkaaGreatEWDiv
set_option linter.unusedVariables false
set_option maxHeartbeats 400000
open Go.Proofs.Tryz
namespace Go.Proofs.YtaemofgeciklkaaGreat
open Go.RowKit Go.Shelf
theorem agQ (i:Nat):i ||| 1=i/2*2+1:=by
 rcases Nat.mod_two_eq_zero_or_one i with h | h
 ·rw [nat_join 1 i 1 h γ];omega
 ·have e:i=(i/2*2) ||| 1:=by rw [nat_join 1 _ 1 ω γ];omega
  have e2:i ||| 1=((i/2*2) ||| 1) ||| 1:=by rw [<-e]
  rw [e2,Nat.or_assoc,show 1 ||| 1=1 from rfl,nat_join 1 _ 1 ω γ]
theorem agR (i:Nat) (h:i<18446744073709551616):bits .or .u64 (i:Int) 1=((i/2*2+1:Nat):Int):=by
 have:=u64_or_nat i 1 h γ
 rw [agQ] at this;exact this
def dvd (N D:Nat):Nat:=if N<D then N*18446744073709551616 else N*9223372036854775808
def qw (N D:Nat):Nat:=if dvd N D%D=0 then dvd N D/D else dvd N D/D/2*2+1
def qx (N D:Nat):Int:=if N<D then -64 else -63
theorem LS (N D:Nat) (n0:9223372036854775808<=N) (n1:N<18446744073709551616) (d0:9223372036854775808<=D) (d1:D<18446744073709551616) :
  9223372036854775808<=dvd N D/D/\dvd N D/D<18446744073709551616:=by
 have hD:0<D:=ω;unfold dvd;split
 ·exact ⟨(Nat.le_div_iff_mul_le hD).2 ω,Nat.div_lt_of_lt_mul ω⟩
 ·exact ⟨(Nat.le_div_iff_mul_le hD).2 ω,Nat.div_lt_of_lt_mul ω⟩
theorem agS (N D:Nat) (n0:9223372036854775808<=N) (n1:N<18446744073709551616) (d0:9223372036854775808<=D) (d1:D<18446744073709551616) (w:World) :
  Calls prog 196 #[BY N,BY D] w fun e w'=>e=π #[BY (qw N D),By (qx N D)]/\∃ n,w'=w.drewN n:=by
 obtain ⟨q0,q1⟩:=LS N D n0 n1 d0 d1;have ho:=agR (dvd N D/D) q1;unfold qw qx;unfold dvd at *;by_cases h:N<D
 ·rw [Ym h] at *
  have e1:((N:Int)*18446744073709551616+0)/D=((N*18446744073709551616/D:Nat):Int):=by rw [Int.add_zero,Int.natCast_ediv,Int.natCast_mul];rfl
  have e2:((N:Int)*18446744073709551616+0)%D=((N*18446744073709551616%D:Nat):Int):=by rw [Int.add_zero,Int.natCast_emod,Int.natCast_mul];rfl
  have dv:=fun w=>LR N 0 D ω ω ω ω ω w
  rw [e1,e2] at dv;clear e1 e2;generalize N*18446744073709551616/D=q at *;generalize N*18446744073709551616%D=r at *;by_cases hr:r=0
  ·rw [Ym hr]
   have fP:((r:Int) == 0)=true:=(by simp;omega);go_enter func196,ntmps196;go_wp2_with (go_at_call 219;refine (dv _).mono ?_;rintro e w' ⟨rfl,n,rfl⟩);go_ret2;exact ⟨rfl,_,rfl⟩
  ·rw [Yl hr]
   have fP:((r:Int) == 0)=false:=(by simp;omega);go_enter func196,ntmps196;go_wp2_with (go_at_call 219;refine (dv _).mono ?_;rintro e w' ⟨rfl,n,rfl⟩);go_ret2;exact ⟨rfl,_,rfl⟩
 ·rw [Yl h] at *
  have eq:((N:Int)/2)*18446744073709551616+IntKind.u64.wrap ((N:Int)*9223372036854775808)=(N:Int)*9223372036854775808:=by rw [qao];omega
  have e1:((N:Int)*9223372036854775808)/D=((N*9223372036854775808/D:Nat):Int):=by rw [Int.natCast_ediv,Int.natCast_mul];rfl
  have e2:((N:Int)*9223372036854775808)%D=((N*9223372036854775808%D:Nat):Int):=by rw [Int.natCast_emod,Int.natCast_mul];rfl
  obtain ⟨w0,w1⟩:=Ax ((N:Int)*9223372036854775808);have dv:=fun w=>LR ((N:Int)/2) (IntKind.u64.wrap ((N:Int)*9223372036854775808)) D ω ω w0 w1 ω w
  rw [eq,e1,e2] at dv;clear e1 e2 eq w0 w1;generalize N*9223372036854775808/D=q at *;generalize N*9223372036854775808%D=r at *;by_cases hr:r=0
  ·rw [Ym hr]
   have fP:((r:Int) == 0)=true:=(by simp;omega);go_enter func196,ntmps196;go_wp2_with (go_at_call 219;refine (dv _).mono ?_;rintro e w' ⟨rfl,n,rfl⟩);go_ret2;exact ⟨rfl,_,rfl⟩
  ·rw [Yl hr]
   have fP:((r:Int) == 0)=false:=(by simp;omega);go_enter func196,ntmps196;go_wp2_with (go_at_call 219;refine (dv _).mono ?_;rintro e w' ⟨rfl,n,rfl⟩);go_ret2;exact ⟨rfl,_,rfl⟩
def kr (wd:Nat):Nat:=if 1024<wd%2048\/wd%2048=1024/\wd/2048%2=1 then wd/2048+1 else wd/2048
theorem agT (wd:Nat) (w0:9223372036854775808<=wd) (w1:wd<18446744073709551616) (f:Nat) (x:Int) (hf:(f:Int)=x+1085) (f1:f<2000) (w:World) :
  Calls prog 197 #[BY wd,By x] w fun e w'=>e=χ (.float .f64 (f*4503599627370496+kr wd))/\w'=w:=by
 have e1:(wd:Int)/2048=((wd/2048:Nat):Int):=rfl;have e2:(wd:Int)%2048=((wd%2048:Nat):Int):=rfl;obtain rfl:x=(f:Int)-1085:=ω;have k0:wd/2048<9007199254740992:=ω;unfold kr;generalize wd/2048=k at *;generalize wd%2048=l at *;clear hf;by_cases h1:1024<l
 ·rw [Ym (.inl h1)]
  go_enter func197,ntmps197;go_wp2_with (simp only [xN]);go_ret;exact ⟨congrArg (fun n=>Ending.returned (Value.float FloatKind.f64 n)) ω,rfl⟩
 ·by_cases h2:l=1024
  ·have Ob:((l:Int) == 1024)=true:=(by simp;omega);by_cases h3:k%2=1
   ·have h3':((k:Int)%2 == 1)=true:=(by simp;omega);rw [Ym (.inr ⟨h2,h3⟩)];go_enter func197,ntmps197;go_wp2_with (simp only [xN]);go_ret;exact ⟨congrArg (fun n=>Ending.returned (Value.float FloatKind.f64 n)) ω,rfl⟩
   ·have h3':((k:Int)%2 == 1)=false:=(by simp;omega);rw [Yl ω];go_enter func197,ntmps197;go_wp2_with (simp only [xN]);go_ret;exact ⟨congrArg (fun n=>Ending.returned (Value.float FloatKind.f64 n)) ω,rfl⟩
  ·have Ob:((l:Int) == 1024)=false:=(by simp;omega);rw [Yl ω];go_enter func197,ntmps197;go_wp2_with (simp only [xN]);go_ret;exact ⟨congrArg (fun n=>Ending.returned (Value.float FloatKind.f64 n)) ω,rfl⟩
theorem agU (q l r D K M:Nat) (hl:q%2048=l) (hr:r<D) (c1:l<1024->M+D<=K) (c2:l=1024->M=K) (c3:1024<l->K<M) :
  (if 1024<(if r=0 then q else q/2*2+1)%2048\/(if r=0 then q else q/2*2+1)%2048=1024/\(if r=0 then q else q/2*2+1)/2048%2=1 then (if r=0 then q else q/2*2+1)/2048+1 else (if r=0 then q else q/2*2+1)/2048) =
   q/2048+(decide (2*K<2*(M+r))||(2*K == 2*(M+r)&&q/2048%2 == 1)).toNat:=by
 have hb:(decide (2*K<2*(M+r))||(2*K == 2*(M+r)&&q/2048%2 == 1))=decide (K<M+r\/K=M+r/\q/2048%2=1):=by
  by_cases a:K<M+r
  ·have:2*K<2*(M+r):=by omega
   simp [a,this]
  ·by_cases b:K=M+r
   ·subst b;by_cases c:q/2048%2=1<;>simp [c]
   ·have n1:¬ 2*K<2*(M+r):=(by omega);have n2:(2*K == 2*(M+r))=false:=(by rw [beq_eq_false_iff_ne];omega);rw [n2,qan n1,qan ω];rfl
 rw [hb];by_cases h0:r=0
 ·rw [Ym h0]
  by_cases g:1024<q%2048\/q%2048=1024/\q/2048%2=1
  ·rw [Ym g,qaF ω];rfl
  ·rw [Yl g,qan ω];rfl
 ·rw [Yl h0]
  have s1:(q/2*2+1)/2048=q/2048:=ω;have s2:(q/2*2+1)%2048=l/2*2+1:=ω;rw [s1,s2];by_cases g:1024<=l
  ·rw [Ym ω,qaF ω];rfl
  ·rw [Yl ω,qan ω];rfl
theorem agV (N D:Nat) (hD:0<D):kr (qw N D)=gP (dvd N D) (D*2048):=by
 unfold kr qw gP;generalize dvd N D=T;have hm:=Nat.mod_lt T hD;have q1:T/(D*2048)=T/D/2048:=by rw [Nat.div_div_eq_div_mul]
 have q2:T%(D*2048)=D*(T/D%2048)+T%D:=by rw [Nat.mod_mul];omega
 have q3:D*2048=2*(D*1024):=ω;rw [q1,q2,q3];generalize T/D=q at *;generalize T%D=r at *;have:=agU q (q%2048) r D (D*1024) (D*(q%2048)) rfl hm
  (fun c=>by have:=Nat.mul_le_mul_left D (show q%2048+1<=1024 by omega);rw [Nat.mul_add,qaE] at this;exact this)
  (fun c=>by rw [c]) (fun c=>Nat.mul_lt_mul_of_pos_left c hD)
 exact this
theorem Xy (y:Nat) (s:Nat) (y1:y<18446744073709551616) (es:(64-(Lib.bitLen y:Int))=(s:Int)) (w:World) :
  Calls prog 195 #[BY y] w fun e w'=>e=χ (By (s:Int))/\w'=w:=by
 have:=Tryz.bits_LeadingZeros64 y w ω ω
 rw [Int.toNat_natCast,es] at this;exact this
theorem Xz (y:Nat) (y0:0<y) (y1:y<18446744073709551616) :
  ∃ s:Nat,s<=63/\(64-(Lib.bitLen y:Int))=(s:Int)/\9223372036854775808<=y*2^s/\y*2^s<18446744073709551616:=by
 obtain ⟨s,h1,h2,h3,h4⟩:=lead y ω ω;rw [Int.toNat_natCast] at h2;have e:((y*2^s:Nat):Int)=(y:Int)*2^s:=by rw [Int.natCast_mul,Int.natCast_pow];rfl
 rw [<-e] at h3 h4;exact ⟨s,h1,h2,ω,ω⟩
theorem agW (num den N D s t wd:Nat) (x:Int) (b:Nat) (hn:num<18446744073709551616) (hd:den<18446744073709551616) (n0:0<num) (d0:0<den) (s1:s<=63) (t1:t<=63) (x0:-64<=x) (x1:x<=-63)
  (eN:IntKind.u64.wrap ((num:Int)*2^s)=N) (eD:IntKind.u64.wrap ((den:Int)*2^t)=D)
  (hs:ag (∀ w:World,Calls prog 195 #[BY num] w fun e w'=>e=χ (By (s:Int))/\w'=w))
  (ht:ag (∀ w:World,Calls prog 195 #[BY den] w fun e w'=>e=χ (By (t:Int))/\w'=w))
  (hq:ag (∀ w:World,Calls prog 196 #[BY N,BY D] w fun e w'=>e=π #[BY wd,By x]/\∃ n,w'=w.drewN n))
  (hr:ag (∀ w:World,Calls prog 197 #[BY wd,By (x+t-s)] w fun e w'=>e=χ (.float .f64 b)/\w'=w)) (w:World) :
  Calls prog 177 #[BY num,BY den] w fun e w'=>e=π #[.float .f64 b,By 0]/\∃ n,w'=w.drewN n:=by
 have h1:((den:Int) == 0)=false:=by simp;omega
 have h2:((num:Int) == 0)=false:=by simp;omega
 go_enter func177,ntmps177;go_wp2_with fail;refine (hs.o _).mono ?_;rintro e w' ⟨rfl,rfl⟩;go_wp2_with fail;refine (ht.o _).mono ?_;rintro e w' ⟨rfl,rfl⟩;go_wp2_with fail;go_quiet ((go_at_call 196;exact Calls.quiet_of (hq.o _)));go_wp2_with (go_at_call 197;refine (hr.o _).mono ?_;rintro e w' ⟨rfl,rfl⟩);go_ret2;exact ⟨rfl,_,rfl⟩
theorem agX (N D:Nat) (n0:9223372036854775808<=N) (n1:N<18446744073709551616) (d0:9223372036854775808<=D) (d1:D<18446744073709551616) :
  9223372036854775808<=qw N D/\qw N D<18446744073709551616:=by
 obtain ⟨a,b⟩:=LS N D n0 n1 d0 d1;unfold qw;split<;>omega
theorem XA (n s:Nat) (h:n*2^s<18446744073709551616):IntKind.u64.wrap ((n:Int)*2^s)=((n*2^s:Nat):Int):=by
 have e:((n*2^s:Nat):Int)=(n:Int)*2^s:=by rw [Int.natCast_mul,Int.natCast_pow];rfl
 rw [<-e,qao];omega
theorem agY (num den:Nat) (hn:num<18446744073709551616) (hd:den<18446744073709551616) (n0:0<num) (d0:0<den) :
  ∃ b,Nr (num*Un) den b/\4318952042648305664<=b/\b<=4895412794951729152 /\
   ∀ w,Calls prog 177 #[BY num,BY den] w fun e w'=>e=π #[.float .f64 b,By 0]/\∃ n,w'=w.drewN n:=by
 obtain ⟨s,s1,es,s2,s3⟩:=Xz num n0 hn;obtain ⟨t,t1,et,t2,t3⟩:=Xz den d0 hd;obtain ⟨q0,q1⟩:=LS _ _ s2 s3 t2 t3;obtain ⟨k0,k1⟩:=agX _ _ s2 s3 t2 t3;have hD:0<den*2^t:=ω;have ek:=agV (num*2^s) (den*2^t) hD;obtain ⟨k,hk,ex,ed⟩:∃ k:Nat,(k=63\/k=64)/\qx (num*2^s) (den*2^t)=-(k:Int)/\dvd (num*2^s) (den*2^t)=num*2^s*2^k:=by
  unfold qx dvd;split
  ·exact ⟨64,.inr rfl,rfl,rfl⟩
  ·exact ⟨63,.inl rfl,rfl,rfl⟩
 obtain ⟨f,hf⟩:∃ f:Nat,(f:Int)=-(k:Int)+t-s+1085:=⟨(-(k:Int)+t-s+1085).toNat,ω⟩;have hg:0<den*2^t*2048:=ω;have hq:num*2^s*2^k/(den*2^t*2048)=num*2^s*2^k/(den*2^t)/2048:=by rw [Nat.div_div_eq_div_mul]
 rw [ed] at q0 q1 ek;have nr:=Nr.of_rne (num*2^s*2^k) (den*2^t*2048) f hg ω (.inl ω);obtain ⟨-,-,-,-,r5,r6,-⟩:=Nx (num*2^s*2^k) (den*2^t*2048) hg;rw [<-ek] at nr r5 r6;refine ⟨f*4503599627370496+kr (qw (num*2^s) (den*2^t)),nr.scale hg d0 ?_,ω,ω,?_⟩
 ·have e1:num*2^s*2^k*2^f*den=num*den*2^(s+k+f):=by rw [Nat.pow_add,Nat.pow_add];ac_rfl
  obtain ⟨j,hj,eU⟩:=mV;have e2:num*Un*(den*2^t*2048)=num*den*2^(j+t+11):=by rw [eU,Nat.pow_add,Nat.pow_add,show (2048:Nat)=2^11 from rfl];ac_rfl
  rw [e1,e2,show s+k+f=j+t+11 by omega]
 ·intro w
  refine agW num den (num*2^s) (den*2^t) s t (qw (num*2^s) (den*2^t)) (-(k:Int)) _ hn hd n0 d0 s1 t1 ω ω (XA _ _ s3) (XA _ _ t3)
   (fun w=>Xy num s hn es w) (fun w=>Xy den t hd et w) (fun w=>?_) (fun w=>?_) w
  ·have:=agS (num*2^s) (den*2^t) s2 s3 t2 t3 w
   rw [ex] at this;exact this
  ·exact agT _ k0 k1 f _ ω ω w
theorem agZ (den:Nat) (hd:0<den) (w:World) :
  Calls prog 177 #[BY 0,BY den] w fun e w'=>e=π #[.float .f64 0,By 0]/\w'=w:=by
 have h1:((den:Int) == 0)=false:=by simp;omega
 go_enter func177,ntmps177;go_wp2;go_ret2;exact ⟨rfl,rfl⟩
