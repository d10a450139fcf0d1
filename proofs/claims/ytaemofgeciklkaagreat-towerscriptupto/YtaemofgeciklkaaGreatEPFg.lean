import Derived.Test.YtaemofgeciklkaaGreatEPBs
import Derived.Test.YtaemofgeciklkaaGreatEPFl
set_option linter.unusedVariables false
set_option maxHeartbeats 8000000
set_option maxRecDepth 20000
open Go.Proofs.Tryz
namespace Go.Proofs.YtaemofgeciklkaaGreat
open Go.RowKit
theorem FZ (b:Nat) (w:World):(callFunc 222 #[.float .f64 b]).run prog w=.ok (.value (BY b)) w:=by rw [run_callFunc_extern func222 η η η (e:=Extern.MathFloatBits.float64bits) η];rfl
theorem xN (n:Int) (w:World):(callFunc 220 #[BY n]).run prog w=.ok (.value (.float .f64 n.toNat)) w:=by rw [run_callFunc_extern func220 η η η (e:=Extern.MathFloatBits.float64frombits) η];rfl
theorem fmt:FloatKind.f64.format=Ieee.double:=rfl
theorem aaF (x:Nat):(FloatKind.f64.format.order x x != some .eq)=decide (9218868437227405312<rg x):=by
  rw [fmt];rcases Nat.lt_trichotomy (rg x) 9218868437227405312 with h | h | h
  · rw [aai h h];simp;omega
  · unfold Ieee.Format.order;rw [xL h]
    simp [Ieee.Datum.order,h]
  · unfold Ieee.Format.order;rw [Fv h]
    simp [Ieee.Datum.order,h]
theorem vt (x:Nat) (w:World) :
    Calls prog 207 #[.float .f64 x] w fun e w'=>e=χ (.bool (decide (9218868437227405312<rg x)))/\w'=w:=by
  have h:=aaF x;go_enter func207,ntmps207;go_wp2;go_ret;exact ⟨rfl,rfl⟩
theorem aaG (x:Nat) (hx:x<18446744073709551616):bits .andNot .u64 (x:Int) 9223372036854775808=((rg x:Nat):Int):=by
  have:=u64_andNot_nat x 9223372036854775808 hx γ
  rw [show ((9223372036854775808:Nat):Int)=9223372036854775808 from rfl] at this;rw [this,show (18446744073709551615-9223372036854775808:Nat)=2^63-1 from rfl,Nat.and_two_pow_sub_one_eq_mod];rfl
theorem Oc (x:Nat):rg x<9223372036854775808:=Nat.mod_lt _ γ
theorem Ba (x:Nat):rg (rg x)=rg x:=Nat.mod_eq_of_lt (Oc x)
theorem Od (x:Nat):sg (rg x)=false:=by have:=Oc x;unfold sg;simp;omega
theorem aaH (x:Nat) (hx:x<18446744073709551616) (w:World) :
    Calls prog 223 #[.float .f64 x] w fun e w'=>e=χ (.float .f64 (rg x))/\w'=w:=by
  have h:=aaG x hx;go_enter func223,ntmps223;go_wp2_with (first | simp only [FZ] | simp only [xN])
  go_ret
  exact ⟨rfl,rfl⟩
theorem Oe (x:Nat):SV (rg x)=V (rg x):=by unfold SV;rw [Od,Ba];rfl
theorem aaI (x:Nat):(FloatKind.f64.format.order (rg x) 9218868437227405311 == some .gt)=decide (rg x=9218868437227405312):=by
  rw [fmt];have hm:rg 9218868437227405311<9218868437227405312:=γ;rcases Nat.lt_trichotomy (rg x) 9218868437227405312 with h | h | h
  · rw [AY (by rw [Ba];exact h) hm]
    have e1:SV 9218868437227405311=V 9218868437227405311:=Oe 9218868437227405311;rw [Oe,e1];have:V (rg x)<=V 9218868437227405311:=jF ω;simp;omega
  · unfold Ieee.Format.order;rw [xL (by rw [Ba];exact h),jG hm,Od]
    simp [Ieee.Datum.order,h]
  · unfold Ieee.Format.order;rw [Fv (by rw [Ba];exact h),jG hm]
    simp [Ieee.Datum.order];omega
theorem aaJ (x:Nat) (hx:x<18446744073709551616) (w:World) :
    Calls prog 209 #[.float .f64 x,By 0] w fun e w'=>e=χ (.bool (decide (rg x=9218868437227405312)))/\w'=w:=by
  have h:=aaI x;go_enter func209,ntmps209;go_wp2_with (go_at_call 223;refine (aaH x hx _).mono ?_;rintro e w' ⟨rfl,rfl⟩);go_ret;exact ⟨rfl,rfl⟩
def lR (x y:Nat) (w:World):Nat:=(Question.nanBits .f64 x y).cut (w.tape w.drawn (.nanBits .f64 x y))
theorem F8 (x y:Nat) (w:World):9218868437227405312<rg (lR x y w):=by unfold lR rg;generalize w.tape w.drawn (.nanBits .f64 x y)=t;show 9218868437227405312<(t%2*2^63+9218868437227405312+1+t/2%(2^52-1))%9223372036854775808;have:t/2%(2^52-1)<2^52-1:=Nat.mod_lt _ γ;generalize t/2%(2^52-1)=a at *;have h2:t%2<2:=Nat.mod_lt _ γ;generalize t%2=c at *;omega
theorem aaK (t:TypeId) (x y:Nat) (h:Ieee.double.mul x y=none) (w:World):(binOp .mul t (.float .f64 x) (.float .f64 y)).run prog w=.ok (.float .f64 (lR x y w)) w.drew:=by have h':FloatKind.f64.format.mul x y=none:=h;simp [binOp,Op.floatArith,h'];rfl
theorem Of (t:TypeId) (x y:Nat) (h:Ieee.double.add x y=none) (w:World):(binOp .add t (.float .f64 x) (.float .f64 y)).run prog w=.ok (.float .f64 (lR x y w)) w.drew:=by have h':FloatKind.f64.format.add x y=none:=h;simp [binOp,Op.floatArith,h'];rfl
variable {x y:Nat}
theorem aaL (h:9218868437227405312<rg x):Ieee.double.add x y=none:=by unfold Ieee.Format.add;rw [Fv h];rfl
def AL (s y base r:Nat):Prop:=(∃ p,Ieee.double.mul s y=some p/\Ieee.double.add p base=some r)\/((∀ p,Ieee.double.mul s y=some p->Ieee.double.add p base=none)/\9218868437227405312<rg r)
theorem aaM (s y far base p r:Nat) (hf:far<18446744073709551616) (ey:floatOfInt .f64 (far:Int)=y) (h1:Ieee.double.mul s y=some p) (h2:Ieee.double.add p base=some r) (w:World) :
    Calls prog 211 #[.float .f64 s,BY far,.float .f64 base] w fun e w'=>e=χ (.float .f64 r)/\w'=w:=by
  have k1:∀ w,(binOp .mul 172 (.float .f64 s) (.float .f64 y)).run prog w=.ok (.float .f64 p) w:=fun w=>run_float_arith w .mul _ _ _ _ _ h1
  have k2:∀ w,(binOp .add 172 (.float .f64 p) (.float .f64 base)).run prog w=.ok (.float .f64 r) w:=fun w=>run_float_arith w .add _ _ _ _ _ h2
  go_enter func211,ntmps211;go_wp2;go_ret;exact ⟨rfl,rfl⟩
theorem aaN (s y far base:Nat) (hf:far<18446744073709551616) (ey:floatOfInt .f64 (far:Int)=y) (w:World) :
    Calls prog 211 #[.float .f64 s,BY far,.float .f64 base] w fun e w'=>(∃ r,e=χ (.float .f64 r)/\AL s y base r)/\∃ n,w'=w.drewN n:=by
  cases h1:Ieee.double.mul s y with
  | some p =>
    cases h2:Ieee.double.add p base with
    | some r=>exact (aaM s y far base p r hf ey h1 h2 w).mono fun e w' h=>⟨⟨r,h.1,.inl ⟨p,h1,h2⟩⟩,0,h.2⟩
    | none =>
      have k1:∀ w,(binOp .mul 172 (.float .f64 s) (.float .f64 y)).run prog w=.ok (.float .f64 p) w:=fun w=>run_float_arith w .mul _ _ _ _ _ h1
      have k2:∀ w,(binOp .add 172 (.float .f64 p) (.float .f64 base)).run prog w=.ok (.float .f64 (lR p base w)) w.drew:=fun w=>Of _ _ _ h2 w
      have a:ag (AL s y base (lR p base w)):=.inr ⟨fun q hq=>(by rw [h1] at hq;cases hq;exact h2),F8 _ _ _⟩
      clear h1 h2;go_enter func211,ntmps211;go_wp2;go_ret;exact ⟨⟨_,rfl,a.o⟩,1,rfl⟩
  | none =>
    have k1:∀ w,(binOp .mul 172 (.float .f64 s) (.float .f64 y)).run prog w=.ok (.float .f64 (lR s y w)) w.drew:=fun w=>aaK _ _ _ h1 w
    have k2:∀ w',(binOp .add 172 (.float .f64 (lR s y w)) (.float .f64 base)).run prog w'=.ok (.float .f64 (lR (lR s y w) base w')) w'.drew:=fun w'=>Of _ _ _ (aaL (F8 s y w)) w'
    have a:ag (AL s y base (lR (lR s y w) base w.drew)):=.inr ⟨fun q hq=>(by rw [h1] at hq;cases hq),F8 _ _ _⟩
    clear h1;go_enter func211,ntmps211;go_wp2;go_ret;exact ⟨⟨_,rfl,a.o⟩,2,rfl⟩
def sQ (x:Nat):Bool:=Ieee.double.order x 14114281232179134464 == some .lt
def sR (x:Nat):Bool:=Ieee.double.order x 4890909195324358656 == some .gt||Ieee.double.order x 4890909195324358656 == some .eq
theorem aaO (k:Nat):V ((k+1023)*4503599627370496)=2^k*Un:=by
  have:=jR (k+1022) 4503599627370496 γ (.inl γ)
  rw [show (k+1022)*4503599627370496+4503599627370496=(k+1023)*4503599627370496 by omega] at this
  rw [this,show (4503599627370496:Nat)=2^52 from rfl,<-Nat.pow_add,vp,show 52+(k+1022)=k+1074 by omega]
theorem Og:V 4890909195324358656=9223372036854775808*Un:=by have h:=aaO 63;rw [show (63+1023)*4503599627370496=4890909195324358656 from rfl,show (2:Nat)^63=9223372036854775808 from rfl] at h;exact h
theorem Oh:SV 4890909195324358656=9223372036854775808*(Un:Int):=by unfold SV;rw [show sg 4890909195324358656=false from rfl,show rg 4890909195324358656=4890909195324358656 from rfl,Og];simp
theorem Oi:SV 14114281232179134464=-(9223372036854775808*(Un:Int)):=by unfold SV;rw [show sg 14114281232179134464=true from rfl,show rg 14114281232179134464=4890909195324358656 from rfl,Og];simp
theorem aaP (h:¬ 9218868437227405312<rg x) (h1:sQ x=false) (h2:sR x=false) :
    rg x<9218868437227405312/\-9223372036854775808<=dz x/\dz x<9223372036854775808/\-9223372036854775808<=oj x/\oj x<9223372036854775808:=by
  have hU:=kU;rcases qaB (rg x) 9218868437227405312 with k | k
  · unfold sQ at h1;unfold sR at h2
    rw [Nz k γ,Oi] at h1;rw [Fx k γ,Oh] at h2;simp only [decide_eq_false_iff_not] at h1 h2;have f0:-9223372036854775808<=dz x:=(by unfold dz;refine (Int.le_ediv_iff_mul_le ω).2 ?_;omega);have f1:dz x<9223372036854775808:=(by unfold dz;refine (Int.ediv_lt_iff_lt_mul ω).2 ?_;omega);obtain ⟨t1,t2⟩:=aax x;by_cases c:SV x<oj x*Un
    · have:=t1 c
      refine ⟨k,f0,f1,ω,?_⟩;by_cases s:sg x=true
      · unfold oj;rw [Ym s]
        generalize V (rg x)/Un=q;omega
      · exfalso
        have s':sg x=false:=(by simpa using s);have e1:=AZ x;rw [s'] at e1;unfold oj at this;rw [s'] at this;simp at e1 this;omega
    · have:=t2 c
      exact ⟨k,f0,f1,ω,ω⟩
  · have e:rg x=9218868437227405312:=by omega
    exfalso
    unfold sQ Ieee.Format.order at h1;unfold sR Ieee.Format.order at h2;rw [xL e,jG (show rg 14114281232179134464<9218868437227405312 by decide)] at h1
    rw [xL e,jG (show rg 4890909195324358656<9218868437227405312 by decide)] at h2
    cases hs:sg x<;>rw [hs] at h1 h2<;>simp [Ieee.Datum.order] at h1 h2
def py (x:Nat) (lo hi:Int):Int :=
  if hi<lo\/9218868437227405312<rg x then lo else if sQ x then lo else if sR x then hi else min (max (dz x) lo) hi
theorem aaQ (hx:rg x<9218868437227405312) (w:World):(callFunc 236 #[.float .f64 x]).run prog w=.ok (.value (.float .f64 (flb x))) w:=by
  rw [run_callFunc_extern func236 η η η (e:=Extern.MathFloor.toIntegral "math.archFloor" .down) η];have key:Extern.MathFloor.toIntegral "math.archFloor" .down #[.float .f64 x]=pure (.float .f64 (flb x)):=by
    unfold flb;have e:=jG hx
    delta Extern.MathFloor.toIntegral
    conv=>lhs;whnf
    rw [show FloatKind.f64.decode x=_ from e,e];rfl
  rw [key];rfl
theorem aaR (hx:rg x<9218868437227405312) (w:World) :
    Calls prog 224 #[.float .f64 x] w fun e w'=>e=χ (.float .f64 (flb x))/\w'=w:=by
  go_enter func224,ntmps224;go_wp2_with (simp only [aaQ hx]);go_ret;exact ⟨rfl,rfl⟩
theorem aaS (lo hi:Int) (h0:-9223372036854775808<=lo) (h1:lo<9223372036854775808) (h2:-9223372036854775808<=hi) (h3:hi<9223372036854775808)
    (hl:¬ hi<lo) (hn:¬ 9218868437227405312<rg x) (hx:rg x<9218868437227405312) (c1:(FloatKind.f64.format.order x 14114281232179134464 == some .lt)=false) (c2:(FloatKind.f64.format.order x 4890909195324358656 == some .gt||FloatKind.f64.format.order x 4890909195324358656 == some .eq)=false)
    (n:Int) (n0:-9223372036854775808<=n) (n1:n<9223372036854775808) (hc:∀ w,(convert 172 2 (.float .f64 (flb x))).run prog w=.ok (By n) w) (w:World) :
    Calls prog 210 #[.float .f64 x,By lo,By hi] w fun e w'=>e=χ (By (min (max n lo) hi))/\w'=w:=by
  go_enter func210,ntmps210;go_wp2_with (first | (go_at_call 207;refine (vt x _).mono ?_;rintro e w' ⟨rfl,rfl⟩) | (go_at_call 224;refine (aaR hx _).mono ?_;rintro e w' ⟨rfl,rfl⟩))
  all_goals go_ret
  all_goals first
    | exact ⟨rfl,rfl⟩
    | exact ⟨congrArg (fun z=>Ending.returned (By z)) (show _=min (max n lo) hi by first | omega | (simp only [*] at *;omega)),rfl⟩
theorem aaT (x:Nat) (lo hi:Int) (h0:-9223372036854775808<=lo) (h1:lo<9223372036854775808) (h2:-9223372036854775808<=hi) (h3:hi<9223372036854775808) (w:World) :
    Calls prog 210 #[.float .f64 x,By lo,By hi] w fun e w'=>e=χ (By (py x lo hi))/\w'=w:=by
  unfold py;by_cases hl:hi<lo
  · rw [Ym (.inl hl)]
    go_enter func210,ntmps210;go_wp2;go_ret;exact ⟨rfl,rfl⟩
  · by_cases hn:9218868437227405312<rg x
    · rw [Ym (.inr hn)]
      go_enter func210,ntmps210;go_wp2_with (go_at_call 207;refine (vt x _).mono ?_;rintro e w' ⟨rfl,rfl⟩);go_ret;exact ⟨rfl,rfl⟩
    · rw [Yl ω]
      cases c1:sQ x
      · cases c2:sR x
        · obtain ⟨hx,f0,f1,-,-⟩:=aaP hn c1 c2
          exact aaS lo hi h0 h1 h2 h3 hl hn hx c1 c2 (dz x) f0 f1 (fun w=>run_convert_float_int w _ _ _ _ _ _ η η (aaw hx f0 f1)) w
        · have iC:(FloatKind.f64.format.order x 14114281232179134464 == some .lt)=false:=c1
          have Bb:(FloatKind.f64.format.order x 4890909195324358656 == some .gt||FloatKind.f64.format.order x 4890909195324358656 == some .eq)=true:=c2
          clear c1 c2;rw [Yl γ,Ym rfl];go_enter func210,ntmps210;go_wp2_with (go_at_call 207;refine (vt x _).mono ?_;rintro e w' ⟨rfl,rfl⟩);go_ret;exact ⟨rfl,rfl⟩
      · have iC:(FloatKind.f64.format.order x 14114281232179134464 == some .lt)=true:=c1
        clear c1;rw [Ym rfl];go_enter func210,ntmps210;go_wp2_with (go_at_call 207;refine (vt x _).mono ?_;rintro e w' ⟨rfl,rfl⟩);go_ret;exact ⟨rfl,rfl⟩
open Ieee
def gv (t lo hi:Int):Int:=min (max t lo) hi
variable {t lo hi:Int}
theorem aaU (h:lo<=hi):lo<=gv t lo hi/\gv t lo hi<=hi:=by unfold gv;omega
theorem aaV {u:Int} (h:t<=u):gv t lo hi<=gv u lo hi:=by unfold gv;omega
variable {k:Int}
theorem aaW {x:Int} (h1:lo<=x) (h2:x<=hi) (a:x-k<=t) (b:t<=x+k) (k0:0<=k):x-k<=gv t lo hi/\gv t lo hi<=x+k:=by unfold gv;omega
variable {a b s p r:Nat} {c:Int}
theorem aaX {d:Nat} (b0:0<b) (a1:a<18446744073709551616) (b1:b<18446744073709551616) (d1:d<18446744073709551616)
    (hs:Nr (a*Un) b s) (hy:Nr (d*Un) 1 y) (hp:Nr (V s*V y) Un p) (hq:a*d<=17179869184*b) (c0:-17179869184<=c) (c1:c<=17179869184)
    (hr:Nr ((V p:Int)+c*Un).natAbs 1 r) :
    ((a*d/b:Nat):Int)+c-1<=iU ((V p:Int)+c*Un) r/Un/\iU ((V p:Int)+c*Un) r/Un<=((a*d/b:Nat):Int)+c+1:=by
  obtain ⟨h1,h2⟩:=aaE b0 a1 b1 d1 hs hy hp hq c0 c1 hr;have U0:=kU;obtain ⟨U,hU⟩:=qbr Un;rw [hU] at h1 h2 U0 ⊢;obtain ⟨R,hR⟩:=qbr (iU ((V p:Int)+c*U) r);rw [hR] at h1 h2 ⊢;clear hR hU hs hy hp hr;have dm:=Nat.div_add_mod (a*d) b;have ml:=Nat.mod_lt (a*d) b0;obtain ⟨T,hT⟩:=qbr (a*d/b);rw [hT] at dm ⊢;have U1:(0:Int)<(U:Int):=ω;have B1:(0:Int)<(b:Int):=ω;have UB:(0:Int)<(U:Int)*b:=Int.mul_pos U1 B1;have ad1:(b:Int)*T<=((a*d:Nat):Int):=by
    have:b*T<=a*d:=ω
    exact_mod_cast this
  have ad2:((a*d:Nat):Int)<=(b:Int)*T+b:=by
    have:a*d<=b*T+b:=ω
    exact_mod_cast this
  have m1:=qae ad1 (Int.le_of_lt U1);have m2:=qae ad2 (Int.le_of_lt U1);have e1:(b:Int)*T*U=T*((U:Int)*b):=by rw [qaa (b:Int) T,qaG,qaa (b:Int) U]
  have e2:((b:Int)*T+b)*U=T*((U:Int)*b)+(U:Int)*b:=by rw [qaC,e1,qaa (b:Int) U]
  rw [e1] at m1;rw [e2] at m2;have e3:c*(U:Int)*b=c*((U:Int)*b):=qaG _ _ _;rw [e3] at h1 h2;constructor
  ·
    rw [Int.le_ediv_iff_mul_le U1];have k:((T:Int)+c-1)*U*b<=R*b:=by have e4:((T:Int)+c-1)*U*b=T*((U:Int)*b)+c*((U:Int)*b)-(U:Int)*b:=(by rw [qaG,Int.sub_mul,qaC,Int.one_mul]);omega
    exact qaX k B1
  ·
    have k:R*b<((T:Int)+c+2)*U*b:=by have e4:((T:Int)+c+2)*U*b=T*((U:Int)*b)+c*((U:Int)*b)+2*((U:Int)*b):=(by rw [qaG,qaC,qaC]);omega
    have k':R<((T:Int)+c+2)*U:=Int.lt_of_mul_lt_mul_right k (Int.le_of_lt B1);have:=Int.ediv_lt_of_lt_mul U1 k';omega
theorem aaY {S1 S2:Int} {r1 r2:Nat} (h1:Nr S1.natAbs 1 r1) (h2:Nr S2.natAbs 1 r2) (h:S1<=S2):iU S1 r1<=iU S2 r2:=by
  unfold iU;by_cases a:S1<0
  · rw [Ym a]
    by_cases b:S2<0
    · rw [Ym b]
      have:r2<=r1:=h2.mono h1 γ γ ω
      have:=jF this
      omega
    · rw [Yl b];omega
  · rw [Yl a,Yl ω]
    have:r1<=r2:=h1.mono h2 γ γ ω
    have:=jF this
    omega
theorem aaZ (h:Nr x 1 r) (b:x<=V 9218868437227405311+36893488147419103232*Un):r<=9218868437227405311:=by
  obtain ⟨B,hB⟩:=qbs 9218868437227405311;rw [<-hB] at b ⊢;by_cases q:x<=V B
  · exact h.mono (Nr.exact B 1 γ) γ γ ω
  · have st:=vf B
    obtain ⟨e,he⟩:=qbr (B/4503599627370496-1);rw [he] at st;have e0:2000<e:=ω;have g:73786976294838206464*Un<2^e:=by obtain ⟨k,hk,eU⟩:=mV;have e2:(2:Nat)^66=73786976294838206464:=(by decide +kernel);rw [eU,<-e2,<-Nat.pow_add];exact Nat.pow_lt_pow_right γ ω
    generalize (2:Nat)^e=k at st g;have lt:=vg (show B-1<B by omega)
    have n:Nr x 1 B:=by
      refine ⟨ω,by rw [st];omega,fun e=>ω,fun e=>?_⟩
      rw [st] at e;omega
    exact qad (h.uniq n γ)
variable {f:Nat->Int} {n:Nat}
theorem aa0 {g:Int->Int} {N:Int} (n0:0<n) (mono:∀ x y,f 0<=x->x<=y->g x<=g y) (up:∀ i,i<n->f 0<=f i) (rng:∀ x,f 0<=x->lo<=g x/\g x<=lo+n) (N0:0<=N)
    (off:∀ i,i<n->lo+i-N<=g (f i)/\g (f i)<=lo+i+N) (q:Int) (k:Nat) (hk:k<=n) (below:∀ i,i<k->f i<q) (Oj:∀ i,k<=i->i<n->q<=f i) (first:f 0<=q):lo+k-(N+1)<=g q/\g q<=lo+k+(N+1):=by
  have r:=rng q first;refine ⟨?_,?_⟩
  · by_cases z:k=0
    · subst z
      have:=Oj 0 (Yk _) n0
      have e:q=f 0:=ω;subst e;have:=(off 0 n0).1;omega
    · have b:=below (k-1) ω
      have m:=mono (f (k-1)) q (up _ ω) ω;have o:=(off (k-1) ω).1;omega
  · by_cases z:k<n
    · have a:=Oj k (Yk _) z
      have m:=mono q (f k) first a;have o:=(off k z).2;omega
    · omega
def cG (sl ic:Nat) (fr to:Int):Int :=
  if fr<0\/to<=fr\/4294967296<to then 70 else if 4611686018427387904<sl then 71 else if 9218868437227405312<=rg ic then 72 else 0
abbrev fA (k:Int) (sl ic:Nat) (fr to:Int):Value:=.agg #[BY k,.float .f64 sl,.float .f64 ic,By fr,By to]
variable {sl ic:Nat} {fr to:Int}
theorem om:cG sl ic fr to=0↔0<=fr/\fr<to/\to<=4294967296/\sl<=4611686018427387904/\rg ic<9218868437227405312:=by
  unfold cG;by_cases h:fr<0\/to<=fr\/4294967296<to
  · rw [Ym h];omega
  · rw [Yl h]
    by_cases h1:4611686018427387904<sl
    · rw [Ym h1];omega
    · rw [Yl h1]
      by_cases h2:9218868437227405312<=rg ic
      · rw [Ym h2];omega
      · rw [Yl h2];omega
def Ok (x:Nat):Bool:=FloatKind.f64.format.order x 0 == some .gt||FloatKind.f64.format.order x 0 == some .eq
def Bc (x:Nat):Bool:=FloatKind.f64.format.order x 4611686018427387904 == some .gt
theorem V0:SV 0=0:=γ
theorem sS (h:x<9223372036854775808):rg x=x:=Nat.mod_eq_of_lt h
theorem Bd (h:x<9223372036854775808):sg x=false:=by unfold sg;simp;omega
theorem xO (h:x<9223372036854775808):SV x=V x:=by unfold SV;rw [Bd h,sS h];rfl
theorem aa1 (h:x<=4611686018427387904):Ok x=true/\decide ((9223372036854775808:Int)<=(x:Int))=false/\Bc x=false:=by
  have hx:rg x<9218868437227405312:=by rw [sS ω];omega
  have e:=xO (x:=x) ω;refine ⟨?_,by simp;omega,?_⟩
  · unfold Ok;rw [fmt,Fx hx γ,V0,e];simp
  · unfold Bc;rw [fmt,AY hx γ,e,xO γ]
    have:=jF h
    simp;omega
theorem Ol:V 4895412794951729152=18446744073709551616*Un:=by
  have:=A4 64
  rwa [show (64+1023)*4503599627370496=4895412794951729152 from rfl,show (2:Nat)^64=18446744073709551616 from rfl] at this
theorem Om:V 4899916394579099648=36893488147419103232*Un:=by
  have:=A4 65
  rwa [show (65+1023)*4503599627370496=4899916394579099648 from rfl,show (2:Nat)^65=36893488147419103232 from rfl] at this
theorem xP {far:Nat} (hs:sl<=4611686018427387904) (hi:rg ic<9218868437227405312) (hf:far<18446744073709551616) :
    ∃ y p r v,Nr (far*Un) 1 y/\floatOfInt .f64 (far:Int)=y/\Nr (V sl*V y) Un p/\Ieee.double.mul sl y=some p/\Nr ((V p:Int)+SV ic).natAbs 1 r/\Ieee.double.add p ic=some v/\rg v<9218868437227405312/\SV v=iU ((V p:Int)+SV ic) r/\y<=4895412794951729152/\p<=4899916394579099648:=by
  have U0:=kU;obtain ⟨y,hy,ey⟩:=NY (far:Int);rw [Int.natAbs_natCast] at hy;have y1:y<=4895412794951729152:=hy.mono (Nr.of_eq (x:=18446744073709551616*Un) (y:=1) γ (by rw [Ol];omega)) γ γ (by
    rw [qaE,qaE];exact qam _ ω)
  have dn:decide ((far:Int)<0)=false:=ε;rw [dn,qaU ω,FH] at ey;have ys:rg y=y:=sS ω;have ss:rg sl=sl:=sS ω;obtain ⟨p,hp,ep⟩:=NM (x:=sl) (y:=y) (by rw [ss];omega) (by rw [ys];omega)
  rw [ss,ys] at hp;have p1:p<=4899916394579099648:=hp.mono (Nr.of_eq (x:=36893488147419103232*Un*Un) (y:=Un) U0 (by rw [Om])) U0 U0 (by
    refine qam _ ?_;have a:=jF hs;have b:=jF y1;rw [V2] at a;rw [Ol] at b;have e:∀ U:Nat,2*U*(18446744073709551616*U)=36893488147419103232*U*U:=fun U=>by rw [Nat.mul_mul_mul_comm,<-Nat.mul_assoc]
    exact Φ (Nat.mul_le_mul a b) (qad (e Un)))
  rw [Bd (x:=sl) ω,Bd (x:=y) ω,qaU ω] at ep;have F9:Ieee.double.mul sl y=some p:=ep;have ps:rg p=p:=sS ω;have pv:SV p=V p:=xO ω;obtain ⟨r,hr,er⟩:=aan (x:=p) (y:=ic) (by rw [ps];omega) hi
  rw [pv] at hr er;have ab:((V p:Int)+SV ic).natAbs<=V 9218868437227405311+36893488147419103232*Un:=by
    have a:=jF p1;rw [Om] at a;have b:=jF (show rg ic<=9218868437227405311 by omega)
    have c:(SV ic).natAbs<=V (rg ic):=(by unfold SV;split<;>omega);omega
  have r1:=aaZ hr ab;rw [qaU (show r<=9218868437227405312 by omega)] at er
  refine ⟨y,p,r,_,hy,ey,hp,F9,hr,er,by rw [xM _ _ ω];omega,?_,y1,p1⟩
  rw [NZ _ _ ω];unfold iU;by_cases z:(V p:Int)+SV ic=0
  · have r0:r=0:=by rw [z] at hr;exact hr.uniq (Nr.zero 1 γ) γ
    subst r0;rw [qS];simp
  · rw [Yl z]
    by_cases n:(V p:Int)+SV ic<0
    · rw [Ym (qaF n),Ym n]
    · rw [Yl (by simpa using n),Yl n]
variable {v:Nat}
theorem aa2 (hv:rg v<9218868437227405312) (h:lo<=hi) (l0:-9223372036854775808<=lo) (h1:hi<9223372036854775808):py v lo hi=gv (dz v) lo hi:=by
  have U0:=kU;have U1:(0:Int)<Un:=ω;unfold py;rw [Yl ω];cases c1:sQ v
  · cases c2:sR v
    · rfl
    · rw [Yl γ,Ym rfl]
      unfold sR at c2;rw [Fx hv γ,Oh,decide_eq_true_eq] at c2;have:9223372036854775808<=dz v:=by unfold dz;exact (Int.le_ediv_iff_mul_le U1).2 c2
      unfold gv;omega
  · rw [Ym rfl]
    unfold sQ at c1;rw [Nz hv γ,Oi,decide_eq_true_eq] at c1;have:dz v < -9223372036854775808:=by unfold dz;refine Int.ediv_lt_of_lt_mul U1 ?_;rw [Int.neg_mul];exact c1
    unfold gv;omega
def vu (sl ic far:Nat):Nat :=
  match Ieee.double.mul sl (floatOfInt .f64 (far:Int)) with
  | some p=>(Ieee.double.add p ic).getD 0
  | none=>0
def dh (k:Int) (sl ic:Nat) (fr to q:Int):Int:=if cG sl ic fr to=0 then py (vu sl ic (q-k).toNat) fr to else 0
theorem xQ {far:Nat} (ey:floatOfInt .f64 (far:Int)=y) (ep:Ieee.double.mul sl y=some p) (ev:Ieee.double.add p ic=some v):vu sl ic far=v:=by unfold vu;rw [ey,ep];show (Ieee.double.add p ic).getD 0=v;rw [ev];rfl
theorem AL.is {base:Nat} (h:AL s y base r) (ep:Ieee.double.mul s y=some p) (ev:Ieee.double.add p base=some v):r=v:=by
  rcases h with ⟨q,a,b⟩ | ⟨a,b⟩
  · rw [ep] at a;cases a;rw [ev] at b;cases b;rfl
  · have:=a p ep;rw [ev] at this;cases this
theorem aa3 (hs:sl<=4611686018427387904) (hi:rg ic<9218868437227405312) (hb:b<18446744073709551616) (h:a<=b):dz (vu sl ic a)<=dz (vu sl ic b):=by
  have U0:=kU;obtain ⟨y,p,r,v,hy,ey,hp,ep,hr,ev,fv,sv,-,-⟩:=xP (far:=a) hs hi ω;obtain ⟨y',p',r',v',iB,ey',hp',F9,fP,xR,fv',sv',-,-⟩:=xP (far:=b) hs hi hb;rw [xQ ey ep ev,xQ ey' F9 xR];unfold dz;refine Int.ediv_le_ediv ω ?_;rw [sv,sv'];refine aaY hr fP ?_;have a1:y<=y':=hy.mono iB γ γ (by rw [qaE,qaE];exact qam _ h)
  have a2:p<=p':=hp.mono hp' U0 U0 (qam _ (Nat.mul_le_mul_left _ (jF a1)));have:=jF a2;omega
variable {q:Int}
theorem Be (h:cG sl ic fr to=0) (k0:0<=k) (q1:q<18446744073709551616):dh k sl ic fr to q=gv (dz (vu sl ic (q-k).toNat)) fr to:=by obtain ⟨a,b,c,d,e⟩:=om.1 h;obtain ⟨y,p,r,v,hy,ey,hp,ep,hr,ev,fv,sv,-,-⟩:=xP (far:=(q-k).toNat) d e ω;unfold dh;rw [Ym h,xQ ey ep ev,aa2 fv ω ω ω]
theorem aa4 {q':Int} (h:cG sl ic fr to=0) (k0:0<=k) (q1:q'<18446744073709551616) (le:q<=q'):dh k sl ic fr to q<=dh k sl ic fr to q':=by obtain ⟨a,b,c,d,e⟩:=om.1 h;rw [Be h k0 ω,Be h k0 q1];exact aaV (aa3 d e ω ω)
theorem Bf (h:cG sl ic fr to=0) (k0:0<=k) (q1:q<18446744073709551616):fr<=dh k sl ic fr to q/\dh k sl ic fr to q<=to:=by obtain ⟨a,b,c,d,e⟩:=om.1 h;rw [Be h k0 q1];exact aaU ω
def dY (g:Nat->Int):Nat->Int
  | 0=>0
  | j+1=>max (max (dY g j) (g j)) (-(g j))
theorem On (g:Nat->Int) (n:Nat):0<=dY g n/\∀ i,i<n->-(dY g n)<=g i/\g i<=dY g n:=by
  induction n with
  | zero=>exact ⟨qaH _,fun i hi=>ω⟩
  | succ n ih =>
    obtain ⟨a,b⟩:=ih;have e:dY g (n+1)=max (max (dY g n) (g n)) (-(g n)):=rfl;refine ⟨ω,fun i hi=>?_⟩
    by_cases c:i=n
    · subst c;omega
    · have:=b i ω;omega
theorem Oo {g:Nat->Int} {M:Int} (M0:0<=M):∀ n,(∀ i,i<n->-M<=g i/\g i<=M)->dY g n<=M:=by
  intro n;induction n with
  | zero=>intro _;exact M0
  | succ n ih =>
    intro h;have a:=ih fun i hi=>h i ω
    have b:=h n ω;show max (max (dY g n) (g n)) (-(g n))<=M;omega
def cU (k:Int) (sl ic:Nat) (fr to:Int) (f:Nat->Int) (i:Nat):Int:=dh k sl ic fr to (f i)-(fr+i)
def sT (k:Int) (sl ic:Nat) (fr to:Int) (n:Nat) (f:Nat->Int) (N er:Int):Prop :=
  (cG sl ic fr to≠0/\N=0/\er=cG sl ic fr to) \/
  (cG sl ic fr to=0/\¬ ((n:Int)=to-fr/\f 0=k/\Up f n)/\N=0/\er=1) \/
  (cG sl ic fr to=0/\((n:Int)=to-fr/\f 0=k/\Up f n)/\N=dY (cU k sl ic fr to f) n/\er=0)
theorem aa5 (h:cG sl ic fr to=0) (k0:0<=k) (hn:(n:Int)=to-fr) (bd:∀ i,i<n->0<=f i/\f i<18446744073709551616):∀ i,i<n->-4294967296<=cU k sl ic fr to f i/\cU k sl ic fr to f i<=4294967296:=by intro i hi;obtain ⟨a,b,c,d,e⟩:=om.1 h;have:=Bf h k0 (bd i hi).2;unfold cU;omega
theorem aa6 (t:Int) (h0:-9007199254740992<=t) (h1:t<=9007199254740992):rg (floatOfInt .f64 t)<9218868437227405312/\SV (floatOfInt .f64 t)=t*Un:=by
  obtain ⟨b,hb,e⟩:=FJ t.natAbs ω;rw [NV t b hb e];refine ⟨by rw [xM _ _ ω];exact hb,?_⟩
  rw [NZ _ _ ω,e];by_cases n:t<0
  · rw [Ym (qaF n)]
    have:(t.natAbs:Int)=-t:=ω
    rw [Int.natCast_mul,this,Int.neg_mul,Int.neg_neg]
  · rw [Yl (by simpa using n)]
    have:(t.natAbs:Int)=t:=ω
    rw [Int.natCast_mul,this]
theorem aa7 {e:Int} {a b:Int} (he:0<=e) (u:Up f n) (h:bM e f (aC n) a b):a<=b:=by
  have b1:=h.b1;rcases h.att with q | ⟨i,j,s,m,r⟩
  · omega
  · have a0:=h.a0
    have D:(j:Int)-i<=f j-f i:=by
      obtain ⟨s1,s2⟩:=s;have:∀ t:Nat,i+t<n->(t:Int)<=f (i+t)-f i:=by
        intro t;induction t with
        | zero=>intro _;simp
        | succ t ih =>
          intro ht;have x:=ih ω;have y:=u (i+t) ω;have z:i+(t+1)=i+t+1:=rfl;rw [z];omega
      have k:=this (j-i) ω;rw [show i+(j-i)=j by omega] at k
      omega
    have k1:a*((j:Int)-i-2*e)<=a*(f j-f i):=Int.mul_le_mul_of_nonneg_left ω a0;rw [<-r,qaa] at k1;exact Int.le_of_mul_le_mul_left k1 m
theorem aa8 (b0:0<b) (h:a<=b) (hs:Nr (a*Un) b s):s<=4607182418800017408:=by
  refine hs.mono (Nr.of_eq (x:=Un) (y:=1) γ (by rw [V1];omega)) b0 γ ?_
  rw [qaE,qar Un];exact qam _ h
variable {eps:Int}
theorem Oq {a b:Int} (h:eG eps f n a b c 0) (hn:n<=100000000) (bd:∀ i,i<n->0<=f i/\f i<18446744073709551616) (a1:a<18446744073709551616) (b1:b<18446744073709551616)
    (f0:0<=fr) (f1:fr+n<=4294967296) (hs:Nr (a.toNat*Un) b.toNat s) :
    cG s (floatOfInt .f64 (fr+c)) fr (fr+n)=0/\∀ i,i<n->-eps<=cU (f 0) s (floatOfInt .f64 (fr+c)) fr (fr+n) f i/\cU (f 0) s (floatOfInt .f64 (fr+c)) fr (fr+n) f i<=eps:=by
  rcases h with ⟨_,_,_,_,h⟩ | ⟨_,_,_,_,_,h⟩ | ⟨_,_,_,_,_,_,h⟩ | ⟨ke,⟨n0,u⟩,F,L,B,_⟩
  · cases h
  · cases h
  · cases h
  have a0:=L.a0;have bb:=L.b1;obtain ⟨st,c0,c1⟩:=M9 ke u n0 hn F L (Na ω u L F) B;obtain ⟨wf,ws⟩:=aa6 (fr+c) ω ω;have s1:=aa8 (b:=b.toNat) ω (by have:=aa7 ω u L;omega) hs
  have er:cG s (floatOfInt .f64 (fr+c)) fr (fr+n)=0:=om.2 ⟨f0,ω,f1,ω,wf⟩;refine ⟨er,fun i hi=>?_⟩
  have d0:=u.le (Γ i) hi;have bi:=bd i hi;have Ge:=bd 0 n0;obtain ⟨-,l1,l2⟩:=st i hi;have sm:=xB (e:=eps-1) ω u L F hi;obtain ⟨d,hd⟩:∃ d:Nat,f i-f 0=d:=⟨(f i-f 0).toNat,ω⟩;obtain ⟨A,rfl⟩:∃ A:Nat,a=A:=⟨a.toNat,ω⟩;obtain ⟨Bn,rfl⟩:∃ Bn:Nat,b=Bn:=⟨b.toNat,ω⟩;rw [Int.toNat_natCast,Int.toNat_natCast] at hs;rw [hd] at l1 l2 sm;have q:(A:Int)*d/Bn=((A*d/Bn:Nat):Int):=by rw [Int.natCast_ediv,Int.natCast_mul]
  rw [q] at l1 l2 sm;obtain ⟨y,p,r,v,hy,ey,hp,ep,hr,ev,fv,sv,-,-⟩:=xP (sl:=s) (ic:=floatOfInt .f64 (fr+c)) (far:=d) ω wf ω;rw [ws] at hr sv;have hq:A*d<=17179869184*Bn:=by
    have x:=Nat.div_add_mod (A*d) Bn;have z:=Nat.mod_lt (A*d) (show 0<Bn by omega)
    have k:A*d/Bn+1<=17179869184:=ω;have k2:=qam Bn k;rw [qaD,qar (A*d/Bn)] at k2;omega
  obtain ⟨g1,g2⟩:=aaX (a:=A) (b:=Bn) (d:=d) (c:=fr+c) ω ω ω ω hs hy hp hq ω ω hr;unfold cU;rw [Be er Ge.1 bi.2,hd,Int.toNat_natCast,xQ ey ep ev];have fl:dz v=iU ((V p:Int)+(fr+c)*Un) r/Un:=by unfold dz;rw [sv]
  rw [fl];have:=aaW (t:=iU ((V p:Int)+(fr+c)*Un) r/Un) (lo:=fr) (hi:=fr+n) (x:=fr+i) (k:=eps) ω ω ω ω ω;omega
theorem aa9 (x:Nat) (hx:x<18446744073709551616):decide (wrap64 (x:Int)<0)=decide (9223372036854775808<=x):=by rw [decide_eq_decide];unfold wrap64;omega
theorem aa' (x:Nat) (hx:x<18446744073709551616) (w:World) :
    Calls prog 208 #[.float .f64 x] w fun e w'=>e=χ (.bool (decide (9223372036854775808<=x)))/\w'=w:=by
  have h:=aa9 x hx;go_enter func208,ntmps208;go_wp2_with (simp only [FZ]);go_ret;exact ⟨rfl,rfl⟩
theorem aba (h:4611686018427387904<x) (n:¬ 9218868437227405312<rg x) (p:x<9223372036854775808):Bc x=true:=by
  have r:=sS p;unfold Bc;rw [fmt];rcases Nat.lt_trichotomy (rg x) 9218868437227405312 with q | q | q
  · rw [AY q γ,xO (x:=x) ω,xO γ]
    have:=vg h
    simp;omega
  · unfold Ieee.Format.order;rw [xL q,jG γ,Bd (x:=x) ω]
    simp [Ieee.Datum.order]
  · exact absurd q n
theorem Gf (k:Int) (sl ic:Nat) (fr tu:Int) (s1:sl<18446744073709551616) (i1:ic<18446744073709551616) (w:World) :
    Calls prog 186 #[fA k sl ic fr tu] w fun e w'=>e=χ (By (cG sl ic fr tu))/\Gw w w':=by
  have G0:ag (Gw w (w.alloc (.cells #[BY k,.float .f64 sl,.float .f64 ic,By fr,By tu] 174))):=(Gw.refl w).alloc _ _;have NS:ag _:=fun W=>vt sl W
  have NI:ag _:=fun W=>vt ic W
  have SB:ag _:=fun W=>aa' sl s1 W
  have II:ag _:=fun W=>aaJ ic i1 W
  unfold cG;by_cases h:fr<0\/tu<=fr\/4294967296<tu
  · rw [Ym h]
    by_cases h1:fr<0
    · have t1:decide (fr<0)=true:=by simpa using h1
      clear h h1;go_enter func186,ntmps186;go_wp2_with fail;exact bodyPost_ret (v:=By 70) (by simp [results,results186,go_sem]) rfl ⟨rfl,G0.o⟩
    · have t1:decide (fr<0)=false:=by simpa using h1
      by_cases h2:tu<=fr
      · have t2:decide (tu<=fr)=true:=by simpa using h2
        clear h h1 h2;go_enter func186,ntmps186;go_wp2_with fail;exact bodyPost_ret (v:=By 70) (by simp [results,results186,go_sem]) rfl ⟨rfl,G0.o⟩
      · have t2:decide (tu<=fr)=false:=by simpa using h2
        have t3:decide (4294967296<tu)=true:=(by simp;omega);clear h h1 h2;go_enter func186,ntmps186;go_wp2_with fail;exact bodyPost_ret (v:=By 70) (by simp [results,results186,go_sem]) rfl ⟨rfl,G0.o⟩
  · rw [Yl h]
    have t1:decide (fr<0)=false:=(by simp;omega);have t2:decide (tu<=fr)=false:=(by simp;omega);have t3:decide (4294967296<tu)=false:=(by simp;omega);clear h;by_cases h1:4611686018427387904<sl
    · rw [Ym h1]
      by_cases hn:9218868437227405312<rg sl
      · have q:decide (9218868437227405312<rg sl)=true:=by simpa using hn
        rw [q] at NS;clear hn h1 q;go_enter func186,ntmps186;go_wp2_with (go_at_call 207;refine (NS.o _).mono ?_;rintro e w' ⟨rfl,rfl⟩);exact bodyPost_ret (v:=By 71) (by simp [results,results186,go_sem]) rfl ⟨rfl,G0.o⟩
      · have q:decide (9218868437227405312<rg sl)=false:=by simpa using hn
        rw [q] at NS;by_cases hp:sl<9223372036854775808
        · have q1:decide (9223372036854775808<=sl)=false:=by simpa using hp
          have q2:(FloatKind.f64.format.order sl 4611686018427387904 == some .gt)=true:=aba h1 hn hp;rw [q1] at SB;clear hn h1 q q1 hp;go_enter func186,ntmps186;go_wp2_with (first | (go_at_call 207;refine (NS.o _).mono ?_;rintro e w' ⟨rfl,rfl⟩) | (go_at_call 208;refine (SB.o _).mono ?_;rintro e w' ⟨rfl,rfl⟩))
          exact bodyPost_ret (v:=By 71) (by simp [results,results186,go_sem]) rfl ⟨rfl,G0.o⟩
        · have q1:decide (9223372036854775808<=sl)=true:=by simpa using hp
          rw [q1] at SB;clear hn h1 q q1 hp;go_enter func186,ntmps186;go_wp2_with (first | (go_at_call 207;refine (NS.o _).mono ?_;rintro e w' ⟨rfl,rfl⟩) | (go_at_call 208;refine (SB.o _).mono ?_;rintro e w' ⟨rfl,rfl⟩))
          exact bodyPost_ret (v:=By 71) (by simp [results,results186,go_sem]) rfl ⟨rfl,G0.o⟩
    · rw [Yl h1]
      obtain ⟨-,-,q2⟩:=aa1 (x:=sl) ω;have vv:(FloatKind.f64.format.order sl 4611686018427387904 == some .gt)=false:=q2;have q:decide (9218868437227405312<rg sl)=false:=(by rw [sS ω];simp;omega);have q1:decide (9223372036854775808<=sl)=false:=(by simp;omega);rw [q] at NS;rw [q1] at SB;clear q q1 q2 h1;by_cases h2:9218868437227405312<=rg ic
      · rw [Ym h2]
        by_cases hn:9218868437227405312<rg ic
        · have q:decide (9218868437227405312<rg ic)=true:=by simpa using hn
          rw [q] at NI;clear hn h2 q;go_enter func186,ntmps186;go_wp2_with (first | (go_at_call 207;refine (NS.o _).mono ?_;rintro e w' ⟨rfl,rfl⟩) | (go_at_call 208;refine (SB.o _).mono ?_;rintro e w' ⟨rfl,rfl⟩) | (go_at_call 207;refine (NI.o _).mono ?_;rintro e w' ⟨rfl,rfl⟩))
          exact bodyPost_ret (v:=By 72) (by simp [results,results186,go_sem]) rfl ⟨rfl,G0.o⟩
        · have q:decide (9218868437227405312<rg ic)=false:=by simpa using hn
          have q1:decide (rg ic=9218868437227405312)=true:=(by simp;omega);rw [q] at NI;rw [q1] at II;clear hn h2 q q1;go_enter func186,ntmps186;go_wp2_with (first | (go_at_call 207;refine (NS.o _).mono ?_;rintro e w' ⟨rfl,rfl⟩) | (go_at_call 208;refine (SB.o _).mono ?_;rintro e w' ⟨rfl,rfl⟩) | (go_at_call 207;refine (NI.o _).mono ?_;rintro e w' ⟨rfl,rfl⟩) | (go_at_call 209;refine (II.o _).mono ?_;rintro e w' ⟨rfl,rfl⟩))
          exact bodyPost_ret (v:=By 72) (by simp [results,results186,go_sem]) rfl ⟨rfl,G0.o⟩
      · rw [Yl h2]
        have q:decide (9218868437227405312<rg ic)=false:=(by simp;omega);have q1:decide (rg ic=9218868437227405312)=false:=(by simp;omega);rw [q] at NI;rw [q1] at II;clear h2 q q1;go_enter func186,ntmps186;go_wp2_with (first | (go_at_call 207;refine (NS.o _).mono ?_;rintro e w' ⟨rfl,rfl⟩) | (go_at_call 208;refine (SB.o _).mono ?_;rintro e w' ⟨rfl,rfl⟩) | (go_at_call 207;refine (NI.o _).mono ?_;rintro e w' ⟨rfl,rfl⟩) | (go_at_call 209;refine (II.o _).mono ?_;rintro e w' ⟨rfl,rfl⟩))
        exact bodyPost_ret (v:=By 0) (by simp [results,results186,go_sem]) rfl ⟨rfl,G0.o⟩
theorem Ot (k:Int) (sl ic:Nat) (fr tu q:Int) (k0:0<=k) (k1:k<18446744073709551616) (q0:0<=q) (q1:q<18446744073709551616) (h:cG sl ic fr tu=0) (w:World) :
    Calls prog 187 #[fA k sl ic fr tu,BY q] w fun e w'=>e=χ (By (dh k sl ic fr tu q))/\Gw w w':=by
  obtain ⟨a,b,c,d,e⟩:=om.1 h;obtain ⟨y,p,r,v,hy,ey,hp,ep,hr,ev,fv,sv,-,-⟩:=xP (far:=(q-k).toNat) d e ω;have V:ag (dh k sl ic fr tu q=py v fr tu):=by show dh k sl ic fr tu q=py v fr tu;unfold dh;rw [Ym h,xQ ey ep ev]
  have A:ag _:=fun W=>(aaN sl y (q-k).toNat ic ω ey W).mono fun ex w' (hx:(∃ r,ex=χ (.float .f64 r)/\AL sl y ic r)/\∃ n,w'=W.drewN n) =>
    show ex=χ (.float .f64 v)/\Gw W w' from ⟨(by obtain ⟨⟨r,e1,al⟩,-⟩:=hx;rw [e1,al.is ep ev]),(by obtain ⟨-,n,e2⟩:=hx;rw [e2];exact (Gw.refl W).drewN n)⟩
  have L:ag _:=fun W=>aaT v fr tu ω ω ω ω W
  have HK:ag (∀ w',Gw (w.alloc (.cells #[BY k,.float .f64 sl,.float .f64 ic,By fr,By tu] 174)) w'->Gw (w.alloc (.cells #[BY k,.float .f64 sl,.float .f64 ic,By fr,By tu] 174)) w'/\w'.cell? (φ w.heap.size 1)=some (.float .f64 sl)/\w'.cell? (φ w.heap.size 2)=some (.float .f64 ic)/\w'.cell? (φ w.heap.size 3)=some (By fr)/\w'.cell? (φ w.heap.size 4)=some (By tu)) :=
    fun w' g=>⟨g,(g.cell _ _ ε).trans ι,(g.cell _ _ ε).trans ι,(g.cell _ _ ε).trans ι,(g.cell _ _ ε).trans ι⟩
  rw [V.o];have G0:ag (Gw w (w.alloc (.cells #[BY k,.float .f64 sl,.float .f64 ic,By fr,By tu] 174))):=(Gw.refl w).alloc _ _;clear hy ey hp ep hr ev fv sv h a b c d e;by_cases g:q<k
  · have wz:((q-k).toNat:Int)=0:=by omega
    rw [wz] at A;go_enter func187,ntmps187;go_wp2_with fail;go_region_held3 (fun w'=>Gw (w.alloc (.cells #[BY k,.float .f64 sl,.float .f64 ic,By fr,By tu] 174)) w'/\w'.cell? (φ w.heap.size 1)=some (.float .f64 sl)/\w'.cell? (φ w.heap.size 2)=some (.float .f64 ic)/\w'.cell? (φ w.heap.size 3)=some (By fr)/\w'.cell? (φ w.heap.size 4)=some (By tu))
      ((refine HK.o _ ?_;(repeat (first | exact Gw.refl _ | exact Ξ δ | exact ag.o δ | refine Gw.drew ?_ | refine Gw.trans ?_ δ));done))
      (first
      | (go_at_call 211;refine (A.o _).mono ?_;rintro ex w2 ⟨rfl,g2⟩;have G2:ag (Gw (w.alloc (.cells #[BY k,.float .f64 sl,.float .f64 ic,By fr,By tu] 174)) w2):=(Gw.trans (by repeat (first | exact Gw.refl _ | exact Ξ δ | exact ag.o δ | refine Gw.drew ?_)) g2);clear g2)
      | (go_at_call 210;refine (L.o _).mono ?_;rintro ex w3 ⟨rfl,rfl⟩))
    all_goals go_wp2_with fail
    all_goals exact bodyPost_ret (v:=By (py v fr tu)) (by simp [results,results187,go_sem]) rfl ⟨rfl,Gw.trans G0.o (by repeat (first | exact Gw.refl _ | exact Ξ δ | exact ag.o δ | refine Gw.drew ?_ | refine Gw.trans ?_ δ))⟩
  · have mz:IntKind.u64.wrap (q-k)=((q-k).toNat:Int):=by rw [qao];omega
    generalize (q-k).toNat=D at A mz;go_enter func187,ntmps187;go_wp2_with fail;go_region_held3 (fun w'=>Gw (w.alloc (.cells #[BY k,.float .f64 sl,.float .f64 ic,By fr,By tu] 174)) w'/\w'.cell? (φ w.heap.size 1)=some (.float .f64 sl)/\w'.cell? (φ w.heap.size 2)=some (.float .f64 ic)/\w'.cell? (φ w.heap.size 3)=some (By fr)/\w'.cell? (φ w.heap.size 4)=some (By tu))
      ((refine HK.o _ ?_;(repeat (first | exact Gw.refl _ | exact Ξ δ | exact ag.o δ | refine Gw.drew ?_ | refine Gw.trans ?_ δ));done))
      (first
      | (go_at_call 211;refine (A.o _).mono ?_;rintro ex w2 ⟨rfl,g2⟩;have G2:ag (Gw (w.alloc (.cells #[BY k,.float .f64 sl,.float .f64 ic,By fr,By tu] 174)) w2):=(Gw.trans (by repeat (first | exact Gw.refl _ | exact Ξ δ | exact ag.o δ | refine Gw.drew ?_)) g2);clear g2)
      | (go_at_call 210;refine (L.o _).mono ?_;rintro ex w3 ⟨rfl,rfl⟩))
    all_goals go_wp2_with fail
    all_goals exact bodyPost_ret (v:=By (py v fr tu)) (by simp [results,results187,go_sem]) rfl ⟨rfl,Gw.trans G0.o (by repeat (first | exact Gw.refl _ | exact Ξ δ | exact ag.o δ | refine Gw.drew ?_ | refine Gw.trans ?_ δ))⟩
theorem abb (k:Int) (sl ic:Nat) (fr tu q:Int) (k0:0<=k) (k1:k<18446744073709551616) (s1:sl<18446744073709551616) (i1:ic<18446744073709551616) (q0:0<=q) (q1:q<18446744073709551616) (w:World) :
    Calls prog 167 #[fA k sl ic fr tu,BY q] w fun e w'=>e=χ (By (dh k sl ic fr tu q))/\Gw w w':=by
  have G0:ag (Gw w (w.alloc (.cells #[BY k,.float .f64 sl,.float .f64 ic,By fr,By tu] 174))):=(Gw.refl w).alloc _ _;have C:ag _:=fun W=>Gf k sl ic fr tu s1 i1 W
  by_cases h:cG sl ic fr tu=0
  · have P:ag _:=fun W=>Ot k sl ic fr tu q k0 k1 q0 q1 h W
    rw [h] at C;generalize dh k sl ic fr tu q=g at *;clear h;go_enter func167,ntmps167;go_wp2_with fail;refine (C.o _).mono ?_;rintro ex w1 ⟨rfl,g1⟩;have x0:w1.cell? (φ w.heap.size 0)=some (BY k):=(g1.cell _ _ ε).trans ι;have x1:w1.cell? (φ w.heap.size 1)=some (.float .f64 sl):=(g1.cell _ _ ε).trans ι;have x2:w1.cell? (φ w.heap.size 2)=some (.float .f64 ic):=(g1.cell _ _ ε).trans ι;have x3:w1.cell? (φ w.heap.size 3)=some (By fr):=(g1.cell _ _ ε).trans ι;have x4:w1.cell? (φ w.heap.size 4)=some (By tu):=(g1.cell _ _ ε).trans ι;have l1:w.heap.size<w1.heap.size:=(by have:=g1.size;simp at this;omega);have G:ag _:=G0.o.trans g1;clear g1 G0;go_wp2_with fail;refine (P.o _).mono ?_;rintro ex w2 ⟨rfl,g2⟩;go_wp2_with fail;exact bodyPost_ret (v:=By g) (by simp [results,results167,go_sem]) rfl ⟨rfl,G.o.trans g2⟩
  · have t1:(cG sl ic fr tu != 0)=true:=by simpa using h
    have V:dh k sl ic fr tu q=0:=Yl h;rw [V];generalize cG sl ic fr tu=er at *;clear V h;go_enter func167,ntmps167;go_wp2_with fail;refine (C.o _).mono ?_;rintro ex w1 ⟨rfl,g1⟩;have G:ag _:=G0.o.trans g1;clear g1 G0;go_wp2_with fail;exact bodyPost_ret (v:=By 0) (by simp [results,results167,go_sem]) rfl ⟨rfl,G.o⟩
variable {w:World} {ao:Option Addr}
theorem KS.drawn {wr:World} (h:KS w ao n f) (g:∃ m,wr=w.drewN m):KS wr ao n f:=by obtain ⟨m,rfl⟩:=g;exact h.gw ((Gw.refl w).drewN m)
theorem Ou (x:Int) (w:World):Calls prog 189 #[BY x] w fun e w'=>e=χ (BY x)/\w'=w:=by go_enter func189,ntmps189;go_wp2;go_ret;exact ⟨rfl,rfl⟩
theorem abc (ao:Option Addr) (n c:Nat) (f:Nat->Int) (hn:n<4611686018427387904) (w:World) (h:KS w ao n f) :
    Calls prog 188 #[.slice ao n c,.func (.func 189) #[] #[]] w fun e w'=>(∃ r:Nat,e=χ (By r)/\r<=n/\(∀ j,j+1<r->f j<f (j+1))/\(r<n->1<=r/\f r<=f (r-1)))/\∃ m,w'=w.drewN m:=by
  go_enter func188,ntmps188;go_wp2_with fail;go_loopg [5] n (fun gg s5 wr=>∃ i:Nat,s5=By i/\1<=i/\(i<=n\/i=1)/\n-i<=gg/\ag (∀ j,j+1<i->f j<f (j+1))/\ag (∃ m,wr=w.drewN m))
  case atStart=>exact ⟨1,rfl,Yk _,.inr rfl,ω,fun j hj=>ω,⟨0,rfl⟩⟩
  case round =>
    obtain ⟨i,rfl,h1,h2,h3,H4,G⟩:=hrel;by_cases ar:i<n
    · obtain ⟨b,off,rfl,hb,hc⟩:=(KS.drawn h G.o).cells ω
      obtain ⟨m,hm⟩:∃ m:Nat,(i:Int)-1=m:=⟨i-1,ω⟩;have pj:m<n:=ω;have hw:=sJ m ω;have c1:=hc i ar;have c0:=hc m pj;clear hc;generalize iS:f i=y1 at c1;generalize iT:f m=y0 at c0;have Y:ag (f i=y1/\f m=y0/\i=m+1):=⟨iS,iT,ω⟩;clear iS iT h h2;by_cases hle:y1<=y0
      · go_wp2_with fail
        go_quiet (first | (go_at_call 189;refine Calls.quiet_of_same (Ou _ _)))
        go_wp2_with fail;go_ret
        obtain ⟨e1,e2,e3⟩:=Y.o;refine ⟨⟨i,rfl,ω,H4.o,fun _=>⟨h1,?_⟩⟩,?_⟩
        · rw [e1,show i-1=m by omega,e2];exact hle
        · obtain ⟨m,e⟩:=G.o;exact ⟨_,by rw [e,World.drewN_drewN]⟩
      · go_wp2_with fail
        go_quiet (first | (go_at_call 189;refine Calls.quiet_of_same (Ou _ _)))
        go_wp2_with fail;go_roundg (n-(m+2))
        case measure=>omega
        case rel =>
          obtain ⟨e1,e2,e3⟩:=Y.o;refine ⟨m+2,by go_num,ω,ω,Yk _,(show ag _ from fun j hj=>?_),(show ag _ from by obtain ⟨m,e⟩:=G.o;exact ⟨_,by rw [e,World.drewN_drewN]⟩)⟩
          by_cases mT:j=m
          · subst mT;rw [e2,<-e3,e1];omega
          · exact H4.o j ω
    · go_wp2_with fail
      go_ret
      exact ⟨⟨n,rfl,Yk _,fun j hj=>H4.o j ω,fun hh=>ω⟩,G.o⟩
theorem abd (ao:Option Addr) (n c:Nat) (f:Nat->Int) (hn:n<4611686018427387904) (w:World) (h:KS w ao n f) :
    Calls prog 172 #[.slice ao n c] w fun e w'=>(∃ r:Bool,e=χ (.bool r)/\(r=true↔Up f n))/\∃ m,w'=w.drewN m:=by
  go_enter func172,ntmps172;go_wp2_with fail;refine (abc ao n c f hn w h).mono ?_;rintro e w1 ⟨⟨r,rfl,h1,h2,h3⟩,g1⟩;have H:ag ((∀ j,j+1<r->f j<f (j+1))/\(r<n->1<=r/\f r<=f (r-1))):=⟨h2,h3⟩;clear h2 h3;go_wp2_with fail;go_ret;obtain ⟨h2,h3⟩:=H.o;refine ⟨⟨_,rfl,?_⟩,g1⟩;unfold Up;by_cases hr:r=n
  · subst hr;simpa using h2
  · have q:=h3 ω
    have:¬ ((r:Int)=n):=ω
    simp only [beq_iff_eq];constructor
    · intro hh;omega
    · intro hh
      have:=hh (r-1) ω
      rw [show r-1+1=r by omega] at this
      omega
theorem abe (ao:Option Addr) (n c:Nat) (f:Nat->Int) (hn:n<4611686018427387904) (w:World) (h:KS w ao n f) :
    Calls prog 235 #[.slice ao n c] w fun e w'=>(∃ r:Bool,e=χ (.bool r)/\(r=true↔Up f n))/\∃ m,w'=w.drewN m:=by
  have HK:ag (Calls prog 172 #[.slice ao n c] w fun e w'=>(∃ r:Bool,e=χ (.bool r)/\(r=true↔Up f n))/\∃ m,w'=w.drewN m):=abd ao n c f hn w h
  clear h;go_enter func235,ntmps235;go_wp2_with fail;refine (HK.o).mono ?_;rintro e w1 ⟨⟨r,rfl,hr⟩,m,rfl⟩;have HR:ag _:=hr;clear hr;go_wp2_with fail;go_ret;exact ⟨⟨r,rfl,HR.o⟩,m,rfl⟩
theorem abf (k:Int) (sl ic:Nat) (fr tu:Int) (k0:0<=k) (k1:k<18446744073709551616) (s1':sl<18446744073709551616) (i1':ic<18446744073709551616) (Gg:-9223372036854775808<=fr) (hf1:fr<9223372036854775808) (ht0:-9223372036854775808<=tu) (ht1:tu<9223372036854775808) (ao:Option Addr) (n cp:Nat) (f:Nat->Int) (hn:n<4611686018427387904) (w:World) (K:KS w ao n f) :
    Calls prog 221 #[fA k sl ic fr tu,.slice ao n cp] w fun e w'=>(∃ N er:Int,e=π #[By N,By er]/\sT k sl ic fr tu n f N er)/\Gw w w':=by
  have G0:ag (Gw w (w.alloc (.cells #[BY k,.float .f64 sl,.float .f64 ic,By fr,By tu] 174))):=(Gw.refl w).alloc _ _;have C:ag _:=fun W=>Gf k sl ic fr tu s1' i1' W
  have GU:ag _:=fun (he:cG sl ic fr tu=0) (q:Int) (q0:0<=q) (q1:q<18446744073709551616) W=>Ot k sl ic fr tu q k0 k1 q0 q1 he W
  have RI:ag _:=fun W (g:Gw w W)=>abe ao n cp f hn W (K.gw g)
  have K':ag _:=K;clear K;by_cases h:cG sl ic fr tu=0
  · obtain ⟨a,b,c,d,e⟩:=om.1 h
    have h':ag _:=h;rw [h] at C;clear h d e;go_enter func221,ntmps221;go_wp2_with fail;refine (C.o _).mono ?_;rintro ex w1 ⟨rfl,g1⟩;have x0:w1.cell? (φ w.heap.size 0)=some (BY k):=(g1.cell _ _ ε).trans ι;have x1:w1.cell? (φ w.heap.size 1)=some (.float .f64 sl):=(g1.cell _ _ ε).trans ι;have x2:w1.cell? (φ w.heap.size 2)=some (.float .f64 ic):=(g1.cell _ _ ε).trans ι;have x3:w1.cell? (φ w.heap.size 3)=some (By fr):=(g1.cell _ _ ε).trans ι;have x4:w1.cell? (φ w.heap.size 4)=some (By tu):=(g1.cell _ _ ε).trans ι;have s1:w.heap.size<w1.heap.size:=(by have:=g1.size;simp at this;omega);have G:ag _:=G0.o.trans g1;clear g1 G0 C;obtain ⟨S,hS⟩:=qbr (tu-fr);have wz:IntKind.i64.wrap (tu-fr)=S:=(by rw [Δ];omega);have Ov:ag (∀ w',Gw w1 w'->w'.cell? (φ w.heap.size 0)=some (BY k)/\w'.cell? (φ w.heap.size 1)=some (.float .f64 sl)/\w'.cell? (φ w.heap.size 2)=some (.float .f64 ic)/\w'.cell? (φ w.heap.size 3)=some (By fr)/\w'.cell? (φ w.heap.size 4)=some (By tu)) :=
      fun w' g=>⟨(g.cell _ _ s1).trans x0,(g.cell _ _ s1).trans x1,(g.cell _ _ s1).trans x2,(g.cell _ _ s1).trans x3,(g.cell _ _ s1).trans x4⟩
    by_cases h1:(n:Int)=S
    · have n0:0<n:=by omega
      obtain ⟨bk,off,rfl,hb,hc⟩:=(K'.o.gw G.o).cells n0;have t1:((n:Int) != S)=false:=(by simpa using h1);have c0:w1.cell? (φ bk off)=some (BY (f 0)):=hc 0 n0;obtain ⟨f0,hf⟩:=qbr (f 0);rw [hf] at c0;have vw:(f 0=k)↔(f0=k):=(by rw [hf]);by_cases hu:Up f n
      · have U:ag (Up f n):=hu
        have RT:ag (∀ m,Calls prog 235 #[ψ bk off n cp] (w1.drewN m) fun e w'=>e=χ (.bool true)/\∃ m',w'=(w1.drewN m).drewN m'):=fun m =>
          (RI.o (w1.drewN m) (G.o.drewN m)).mono fun ex w' (hx:(∃ r:Bool,ex=χ (.bool r)/\(r=true↔Up f n))/\∃ m',w'=(w1.drewN m).drewN m')=>⟨(by
            obtain ⟨⟨r,e1,e2⟩,-⟩:=hx;have:r=true:=by exact e2.2 hu
            rw [e1,this]),hx.2⟩
        clear hu RI;by_cases h2:f0=k
        · have t2:(f0 != k)=false:=by simpa using h2
          have FC:ag ((n:Int)=tu-fr/\f 0=k/\∀ i,i<n->w1.cell? (φ bk (off+i))=some (BY (f i))):=⟨h1.trans hS.symm,hf.trans h2,hc⟩;clear h1 h2 hf hS hc vw;go_wp2_with fail;go_quiet (first | (go_at_call 235;refine Calls.quiet_of (RT.o _)))
          go_wp2_with fail;go_loopg [7,39] n (fun gg s7 s8 wr=>∃ i:Nat,s7=By (dY (cU k sl ic fr tu f) i)/\s8=By i/\i<=n/\n-i<=gg/\ag (Gw w1 wr))
          case atStart=>exact ⟨0,rfl,rfl,Γ _,ω,(Gw.refl _).drewN _⟩
          case round =>
            obtain ⟨i,rfl,rfl,h2,h3,GR⟩:=hrel;by_cases ar:i<n
            · obtain ⟨y0,y1,y2,y3,y4⟩:=Ov.o _ GR.o
              have ci:=(GR.o.cell _ _ hb).trans (FC.o.2.2 i ar);have lb:=Θ hb GR.o.size;have ls:=Θ s1 GR.o.size;have bi:=K'.o.bd i ar;have aw:=aa5 h'.o k0 FC.o.1 K'.o.bd;have gin:=Bf (q:=f i) h'.o k0 bi.2;have wi:=(On (cU k sl ic fr tu f) i).1;have wl:=Oo (g:=cU k sl ic fr tu f) (M:=4294967296) γ i (fun j hj=>aw j ω)
              have ai:=aw i ar;clear aw;have ae:cU k sl ic fr tu f i=dh k sl ic fr tu (f i)-(fr+i):=rfl;have WS:ag (dY (cU k sl ic fr tu f) (i+1)=max (max (dY (cU k sl ic fr tu f) i) (cU k sl ic fr tu f i)) (-(cU k sl ic fr tu f i))):=rfl;have GI:ag _:=fun W=>GU.o h'.o (f i) bi.1 bi.2 W
              generalize dY (cU k sl ic fr tu f) i=Wi at *;generalize dh k sl ic fr tu (f i)=gi at *;generalize cU k sl ic fr tu f i=D at *;obtain ⟨E,hE⟩:=qbr (fr+(i:Int));rw [hE] at ae;obtain ⟨M,hM⟩:=qbr (-D);rw [hM] at WS;have jS:(i:Int)<tu-fr:=(by have:=FC.o.1;omega);have z1:IntKind.i64.wrap (fr+(i:Int))=E:=(by rw [Δ];omega);have z2:IntKind.i64.wrap (gi-E)=D:=(by rw [Δ];omega);have z3:IntKind.i64.wrap (-D)=M:=(by rw [Δ];omega);generalize f i=yi at *;clear ae hE hM wi wl ai gin bi jS;rename_i wr _ _ _ _;have HW:ag (∀ w',Gw wr w'->Gw wr w'/\w'.cell? (φ w.heap.size 0)=some (BY k)/\w'.cell? (φ w.heap.size 1)=some (.float .f64 sl)/\w'.cell? (φ w.heap.size 2)=some (.float .f64 ic)/\w'.cell? (φ w.heap.size 3)=some (By fr)/\w'.cell? (φ w.heap.size 4)=some (By tu)/\w'.cell? (φ bk (off+i))=some (BY yi)) :=
                fun w' g=>⟨g,(g.cell _ _ ls).trans y0,(g.cell _ _ ls).trans y1,(g.cell _ _ ls).trans y2,(g.cell _ _ ls).trans y3,(g.cell _ _ ls).trans y4,(g.cell _ _ lb).trans ci⟩
              clear x0 x1 x2 x3 x4 s1 RT c0 hb GU Ov;go_wp2_with fail;go_region_held3 (fun w'=>Gw wr w'/\w'.cell? (φ w.heap.size 0)=some (BY k)/\w'.cell? (φ w.heap.size 1)=some (.float .f64 sl)/\w'.cell? (φ w.heap.size 2)=some (.float .f64 ic)/\w'.cell? (φ w.heap.size 3)=some (By fr)/\w'.cell? (φ w.heap.size 4)=some (By tu)/\w'.cell? (φ bk (off+i))=some (BY yi))
                ((refine HW.o _ ?_;(repeat (first | exact Gw.refl _ | exact Ξ δ | exact ag.o δ | refine Gw.drew ?_ | refine Gw.trans ?_ δ));done))
                ((go_at_call 187;refine (GI.o _).mono ?_;rintro ex w3 ⟨rfl,g3⟩;have G3:ag (Gw wr w3):=(Gw.trans (by repeat (first | exact Gw.refl _ | exact Ξ δ | exact ag.o δ | refine Gw.drew ?_)) g3);clear g3))
              all_goals go_wp2_with fail
              all_goals
                go_roundg (n-(i+1))
                case measure=>omega
                case rel =>
                  refine ⟨i+1,?_,by go_num,ar,Yk _,(show ag _ from GR.o.trans (by repeat (first | exact Gw.refl _ | exact Ξ δ | exact ag.o δ | refine Gw.drew ?_ | refine Gw.trans ?_ δ)))⟩
                  rw [WS.o];exact congrArg (Value.int .i64) (show (_:Int)=max (max Wi D) M by first | omega | (simp only [*] at *;omega))
            · have e:i=n:=by omega
              subst e;have R:ag (sT k sl ic fr tu i f (dY (cU k sl ic fr tu f) i) 0):=.inr (.inr ⟨h'.o,⟨FC.o.1,FC.o.2.1,U.o⟩,rfl,rfl⟩);generalize dY (cU k sl ic fr tu f) i=Wi at *;go_wp2_with fail;exact bodyPost_ret (v:=.tuple #[By Wi,By 0]) (by simp [results,results221,go_sem]) rfl ⟨⟨Wi,0,rfl,R.o⟩,G.o.trans GR.o⟩
        · have t2:(f0 != k)=true:=by simpa using h2
          have R:ag (sT k sl ic fr tu n f 0 1):=.inr (.inl ⟨h'.o,fun q=>h2 (vw.1 q.2.1),rfl,rfl⟩)
          clear h1 hS h2 hf hc vw GU;go_wp2_with fail;go_quiet (first | (go_at_call 235;refine Calls.quiet_of (RT.o _)))
          go_wp2_with fail;exact bodyPost_ret (v:=.tuple #[By 0,By 1]) (by simp [results,results221,go_sem]) rfl ⟨⟨0,1,rfl,R.o⟩,G.o.drewN _⟩
      · have R:ag (sT k sl ic fr tu n f 0 1):=.inr (.inl ⟨h'.o,fun q=>hu q.2.2,rfl,rfl⟩)
        have RT:ag (∀ m,Calls prog 235 #[ψ bk off n cp] (w1.drewN m) fun e w'=>e=χ (.bool false)/\∃ m',w'=(w1.drewN m).drewN m'):=fun m =>
          (RI.o (w1.drewN m) (G.o.drewN m)).mono fun ex w' (hx:(∃ r:Bool,ex=χ (.bool r)/\(r=true↔Up f n))/\∃ m',w'=(w1.drewN m).drewN m')=>⟨(by
            obtain ⟨⟨r,e1,e2⟩,-⟩:=hx;have:r=false:=by cases r;rfl;exact absurd (e2.1 rfl) hu
            rw [e1,this]),hx.2⟩
        clear h1 hS hf hc vw GU RI hu;go_wp2_with fail;go_quiet (first | (go_at_call 235;refine Calls.quiet_of (RT.o _)))
        go_wp2_with fail;exact bodyPost_ret (v:=.tuple #[By 0,By 1]) (by simp [results,results221,go_sem]) rfl ⟨⟨0,1,rfl,R.o⟩,G.o.drewN _⟩
    · have t1:((n:Int) != S)=true:=by simpa using h1
      have R:ag (sT k sl ic fr tu n f 0 1):=.inr (.inl ⟨h'.o,fun q=>h1 (q.1.trans hS),rfl,rfl⟩)
      clear h1 hS RI GU;go_wp2_with fail;go_quiet (fail);go_wp2_with fail;exact bodyPost_ret (v:=.tuple #[By 0,By 1]) (by simp [results,results221,go_sem]) rfl ⟨⟨0,1,rfl,R.o⟩,G.o.drewN _⟩
  · have t1:(cG sl ic fr tu != 0)=true:=by simpa using h
    have R:ag (sT k sl ic fr tu n f 0 (cG sl ic fr tu)):=.inl ⟨h,rfl,rfl⟩;generalize cG sl ic fr tu=er at *;clear h GU RI;go_enter func221,ntmps221;go_wp2_with fail;refine (C.o _).mono ?_;rintro ex w1 ⟨rfl,g1⟩;have G:ag _:=G0.o.trans g1;clear g1 G0;go_wp2_with fail;exact bodyPost_ret (v:=.tuple #[By 0,By er]) (by simp [results,results221,go_sem]) rfl ⟨⟨0,er,rfl,R.o⟩,G.o⟩
theorem Ow (r den:Nat) (h:r<den) (hd:den<18446744073709551616) (w:World) :
    Calls prog 166 #[BY r,BY den] w fun e w'=>e=π #[BY ((2*r%den:Nat):Int),.bool (decide (den<=2*r))]/\w'=w:=by
  by_cases c:den<=2*r
  · rw [qaF c,show 2*r%den=2*r-den by rw [Nat.mod_eq_sub_mod c,Nat.mod_eq_of_lt ω]]
    have e1:((2*r-den:Nat):Int)=(r:Int)-(den-r):=ω;rw [e1];go_enter func166,ntmps166;go_wp2;go_ret2;exact ⟨rfl,rfl⟩
  · rw [qan c,Nat.mod_eq_of_lt ω]
    have e1:((2*r:Nat):Int)=2*(r:Int):=ω;rw [e1];go_enter func166,ntmps166;go_wp2;go_ret2;exact ⟨rfl,rfl⟩
theorem abg (den:Nat) (hd:0<den) (w:World) :
    Calls prog 148 #[BY 0,BY den] w fun e w'=>e=π #[.float .f64 0,By 0]/\w'=w:=by
  have h1:((den:Int) == 0)=false:=by simp;omega
  go_enter func148,ntmps148;go_wp2;go_ret2;exact ⟨rfl,rfl⟩
theorem sU (m:Nat) (h0:4503599627370496<=m) (h1:m<=9007199254740992):floatOfInt .f64 (m:Int)=1074*4503599627370496+m:=by
  obtain ⟨j,hj,eU⟩:=mV;have hv:V (1074*4503599627370496+m)=m*Un:=by rw [<-hj,jR j m h1 (.inl h0),eU]
  rw [NV (m:Int) (1074*4503599627370496+m) ω (by rw [Int.natAbs_natCast];exact hv),show decide ((m:Int)<0)=false from qan ω,FH]
theorem abh {c:Nat} (h0:4200000000000000000<=c) (h1:c<6000000000000000000):Ieee.double.mul c 4611686018427387904=some (c+4503599627370496):=by rw [aaA ω];unfold sP;rw [Yl ω]
theorem abi (A D:Nat) (hD:0<D):2*A/D=2*(A/D)+(if D<=2*(A%D) then 1 else 0)/\2*A%D=2*(A%D)%D:=by
  have hd:=Nat.div_add_mod A D;have hm:=Nat.mod_lt A hD;generalize A/D=q at *;generalize A%D=r at *;have e:2*A=2*r+D*(2*q):=by rw [<-hd,Nat.mul_add,Nat.mul_left_comm];omega
  rw [e,Nat.add_mul_div_left _ _ hD,Nat.add_mul_mod_self_left];refine ⟨?_,rfl⟩;split
  · rename_i c
    rw [show 2*r/D=1 from Nat.div_eq_of_lt_le ω ω];omega
  · rw [Nat.div_eq_of_lt ω];omega
theorem abj (A D j:Nat) (hD:0<D) :
    gP A (D*2^(j+1))=A/D/2^j/2+(if A/D/2^j%2=1/\(A/D%2^j≠0\/A%D≠0\/A/D/2^j/2%2=1) then 1 else 0):=by
  have hm:=Nat.mod_lt A hD;have hP:=qaM j;unfold gP;have q1:A/(D*2^(j+1))=A/D/2^j/2:=by rw [Nat.pow_succ,<-Nat.div_div_eq_div_mul,<-Nat.div_div_eq_div_mul]
  have q2:A%(D*2^(j+1))=D*(A/D%2^(j+1))+A%D:=by rw [Nat.mod_mul];omega
  have q3:A/D%2^(j+1)=A/D%2^j+2^j*(A/D/2^j%2):=by rw [Nat.pow_succ,Nat.mod_mul]
  have q4:D*2^(j+1)=2*(D*2^j):=by rw [Nat.pow_succ,<-Nat.mul_assoc];omega
  rw [q1,q2,q3,q4,show D*(A/D%2^j+2^j*(A/D/2^j%2))=D*(A/D%2^j)+D*2^j*(A/D/2^j%2) by rw [Nat.mul_add,qaj]]
  clear q1 q2 q3 q4;have hs:=Nat.mod_lt (A/D) hP;generalize A/D/2^j=M at *;generalize A/D%2^j=s at *;generalize A%D=r at *;have d1:D*s+D<=D*2^j:=by
    have:=Nat.mul_le_mul_left D (show s+1<=2^j by omega)
    rw [Nat.mul_add,qaE] at this;exact this
  have d2:D*s=0↔s=0:=by
    constructor
    · intro h;rcases Nat.mul_eq_zero.1 h with h | h<;>omega
    · intro h;rw [h,Nat.mul_zero]
  generalize D*2^j=K at *;generalize D*s=T at *;congr 1;rcases Nat.mod_two_eq_zero_or_one M with h | h
  · rw [h,Nat.mul_zero,Nat.add_zero,Yl ω,qan ω,show (2*K == 2*(T+r))=false by rw [beq_eq_false_iff_ne];omega]
    rfl
  · rw [h,qaE]
    by_cases c:s≠0\/r≠0
    · rw [qaF ω,Ym ⟨rfl,ω⟩];rfl
    · rw [qan ω,show (2*K == 2*(T+K+r))=true by rw [beq_iff_eq];omega]
      by_cases o:M/2%2=1
      · rw [Ym ⟨rfl,.inr (.inr o)⟩,o];rfl
      · rw [Yl ω,show (M/2%2 == 1)=false by rw [beq_eq_false_iff_ne];exact o];rfl
theorem abk (num den k j:Nat) (b0:Nat) (h:Nr (num*Un) den b0) (d0:0<den) (hk:k<=200) (Ox:9007199254740992<=num*2^k/den/2^j) (Oy:num*2^k/den/2^j<18014398509481984) (c m:Nat)
    (hm:m=num*2^k/den/2^j/2+(if num*2^k/den/2^j%2=1/\(num*2^k/den%2^j≠0\/num*2^k%den≠0\/num*2^k/den/2^j/2%2=1) then 1 else 0))
    (hc:(c:Int)=(1074+((j:Int)-k+1))*4503599627370496+m):c=b0:=by
  have hP:=qaM (j+1);have hg:0<den*2^(j+1):=Nat.mul_pos d0 hP;have q1:num*2^k/(den*2^(j+1))=num*2^k/den/2^j/2:=by rw [Nat.pow_succ,<-Nat.div_div_eq_div_mul,<-Nat.div_div_eq_div_mul]
  rw [<-abj _ _ _ d0] at hm;obtain ⟨e,he⟩:∃ e:Nat,(e:Int)=1074+((j:Int)-k+1):=⟨(1074+((j:Int)-k+1)).toNat,ω⟩;have nr:=Nr.of_rne (num*2^k) (den*2^(j+1)) e hg (by rw [q1];clear hm hc h;omega) (.inl (by rw [q1];clear hm hc h;omega))
  have ec:c=e*4503599627370496+m:=by rw [<-he] at hc;clear hm h nr Ox Oy q1;omega
  rw [<-hm,<-ec] at nr;refine (nr.scale hg d0 ?_).uniq h d0;obtain ⟨u,hu,eU⟩:=mV;rw [eU];have e1:num*2^k*2^e*den=num*den*2^(k+e):=by rw [Nat.pow_add];ac_rfl
  have e2:num*2^u*(den*2^(j+1))=num*den*2^(u+(j+1)):=by rw [Nat.pow_add 2 u];ac_rfl
  rw [e1,e2,show k+e=u+(j+1) by clear eU hm h nr Ox Oy q1;omega]
theorem abl (num den b0:Nat) (hn:num<18446744073709551616) (hd:den<18446744073709551616) (n0:0<num) (d0:0<den) (hb:Nr (num*Un) den b0) (w:World) :
    Calls prog 148 #[BY num,BY den] w fun e w'=>e=π #[.float .f64 b0,By 0]/\w'=w:=by
  have h1:((den:Int) == 0)=false:=by simp;omega
  have h2:((num:Int) == 0)=false:=by simp;omega
  have aD:ag (∀ k j c m':Nat,k<=200->9007199254740992<=num*2^k/den/2^j->num*2^k/den/2^j<18014398509481984 ->
      m'=num*2^k/den/2^j/2+(if num*2^k/den/2^j%2=1/\(num*2^k/den%2^j≠0\/num*2^k%den≠0\/num*2^k/den/2^j/2%2=1) then 1 else 0) ->
      (c:Int)=(1074+((j:Int)-k+1))*4503599627370496+m'->c=b0):=fun k j c m' a1 a2 a3 a4 a5=>abk num den k j b0 hb d0 a1 a2 a3 c m' a4 a5
  clear hb;obtain ⟨q0,xS⟩:∃ q0:Nat,q0=num/den:=⟨_,rfl⟩;obtain ⟨r0,Bg⟩:∃ r0:Nat,r0=num%den:=⟨_,rfl⟩;have eq0:(num:Int)/den=(q0:Int):=by rw [xS];exact (Int.natCast_ediv _ _).symm
  have Oz:(num:Int)%den=(r0:Int):=by rw [Bg];exact (Int.natCast_emod _ _).symm
  have bq0:q0<18446744073709551616:=by rw [xS];exact Nat.lt_of_le_of_lt (Nat.div_le_self _ _) hn
  have br0:r0<den:=by rw [Bg];exact Nat.mod_lt _ d0
  have E0:ag (q0=num*2^0/den/\r0=num*2^0%den):=by rw [Nat.pow_zero,qaE];exact ⟨xS,Bg⟩
  clear xS Bg;go_enter func148,ntmps148;go_wp2;go_loop [6,7,8] (fun p q r=>∃ k m s:Nat,p=BY m/\q=BY s/\r=By (-(k:Int))/\k<=117/\m<18446744073709551616/\s<den/\(k=0\/m<18014398509481984)/\ag (m=num*2^k/den/\s=num*2^k%den)) (fun _ _ r=>(intOf r+200).toNat)
  case atStart =>
    exact ⟨0,q0,r0,rfl,by rw [Oz],ε,ω,bq0,br0,.inl rfl,E0⟩
  case round =>
    obtain ⟨k,m,s,rfl,rfl,rfl,hk,hm,hs,sV,HM⟩:=hrel;clear eq0 Oz;obtain ⟨mi,sW⟩:∃ mi:Int,(m:Int)=mi:=⟨_,rfl⟩;have HI:ag _:=sW;have mi0:0<=mi:=ω;have mi1:mi<18446744073709551616:=ω;by_cases ar:m<9007199254740992
    · have Gh:k<117:=by
        obtain ⟨e1,e2⟩:=HM.o;rcases qaB k 117 with z | z
        · exact z
        · exfalso
          have p:2^117<=2^k:=qbe γ z;have p2:2^k<=num*2^k:=Nat.le_mul_of_pos_left _ n0;have p3:num*2^k<9007199254740992*den:=(Nat.div_lt_iff_lt_mul d0).1 (by rw [<-e1];exact ar)
          have p4:(2:Nat)^117=166153499473114484112975882535043072:=(by decide +kernel);clear e1 e2 HM E0 aD;omega
      have st:=abi (num*2^k) den d0;have pk:2*(num*2^k)=num*2^(k+1):=(by rw [Nat.pow_succ];ac_rfl);rw [pk,<-HM.o.1,<-HM.o.2] at st;have sm:2*s%den<den:=Nat.mod_lt _ d0;by_cases one:den<=2*s
      · rw [Ym one] at st
        have H':ag (2*m+1=num*2^(k+1)/den/\2*s%den=num*2^(k+1)%den):=⟨st.1.symm,st.2.symm⟩;clear st pk HM E0;generalize Gi:2*s%den=s2 at *;have bm:2*m+1<18014398509481984:=ω;have dH:mi<9007199254740992:=ω;rw [sW];clear sW ar sV hm;go_wp2_with (go_at_call 166;refine (Ow s den hs hd _).mono ?_;rw [Gi];rintro e w' ⟨rfl,rfl⟩);exact ⟨⟨k+1,2*m+1,s2,by have:=HI.o;congr 1;omega,rfl,by congr 1;omega,ω,ω,sm,.inr bm,H'⟩,by simp [intOf];omega⟩
      · rw [Yl one] at st
        have H':ag (2*m=num*2^(k+1)/den/\2*s%den=num*2^(k+1)%den):=⟨by rw [st.1];rfl,st.2.symm⟩
        clear st pk HM E0;generalize Gi:2*s%den=s2 at *;have bm:2*m<18014398509481984:=ω;have dH:mi<9007199254740992:=ω;rw [sW];clear sW ar sV hm;go_wp2_with (go_at_call 166;refine (Ow s den hs hd _).mono ?_;rw [Gi];rintro e w' ⟨rfl,rfl⟩);exact ⟨⟨k+1,2*m,s2,by have:=HI.o;congr 1;omega,rfl,by congr 1;omega,ω,ω,sm,.inr bm,H'⟩,by simp [intOf];omega⟩
    · have dH:¬ mi<9007199254740992:=by omega
      clear E0;rw [sW];have m9:9007199254740992<=m:=ω;have m8:m<18446744073709551616:=hm;have H9:ag (9007199254740992<=m/\m<18446744073709551616):=⟨m9,m8⟩;clear sW ar sV hm m9 m8;go_wp2;go_loop [6,8,9] (fun p r l=>∃ (j M:Nat) (lf:Bool),p=BY M/\r=By ((j:Int)-k)/\l=.bool lf/\j<=10/\9007199254740992<=M/\M*2^j<18446744073709551616/\ag (M=m/2^j/\lf=decide (m%2^j≠0))) (fun p _ _=>(intOf p).toNat)
      case atStart=>exact ⟨0,m,false,by rw [HI.o],by congr 1;omega,rfl,ω,H9.o.1,by rw [Nat.pow_zero,qaE];exact H9.o.2,⟨by rw [Nat.pow_zero,Nat.div_one],by simp [Nat.mod_one]⟩⟩
      case round =>
        obtain ⟨j,M,lf,rfl,rfl,rfl,hj,hM,Bh,HL⟩:=hrel;clear HI dH mi0 mi1;obtain ⟨Mi,qT⟩:∃ Mi:Int,(M:Int)=Mi:=⟨_,rfl⟩;have HJ:ag _:=qT;have Mi0:9007199254740992<=Mi:=ω;have Mi1:Mi<18446744073709551616:=(by have:=Nat.le_mul_of_pos_right M (qaM j);omega);by_cases xU:18014398509481984<=M
        · have xV:j<10:=by
            rcases qaB j 10 with z | z
            · exact z
            · exfalso
              obtain rfl:j=10:=ω;have:(2:Nat)^10=1024:=rfl;rw [this] at Bh;omega
          have e1:M/2=m/2^(j+1):=(by rw [HL.o.1,Nat.pow_succ,Nat.div_div_eq_div_mul]);have e2:m%2^(j+1)=m%2^j+2^j*(M%2):=(by rw [Nat.pow_succ,Nat.mod_mul,HL.o.1]);have hP:=qaM j;have e3:M/2*2^(j+1)<18446744073709551616:=(by rw [Nat.pow_succ,qar (2^j),<-Nat.mul_assoc];have:M/2*2*2^j<=M*2^j:=qam _ ω;omega);have hl:=HL.o.2;have abm:18014398509481984<=Mi:=ω;rcases Nat.mod_two_eq_zero_or_one M with o | o
          · have H':ag (M/2=m/2^(j+1)/\lf=decide (m%2^(j+1)≠0)):=⟨e1,by rw [hl,e2,o,Nat.mul_zero,Nat.add_zero]⟩
            have o':(Mi%2 == 1)=false:=(by simp;omega);have pC:ag (Mi/2=((M/2:Nat):Int)/\9007199254740992<=M/2):=⟨ω,ω⟩;rw [qT];clear e1 e2 hl HL Bh qT xU hM HJ;generalize M/2=M2 at *;cases lf
            · go_wp2
              exact ⟨⟨j+1,M2,false,by rw [pC.o.1],by congr 1;omega,rfl,ω,pC.o.2,e3,H'⟩,by simp [intOf];omega⟩
            · go_wp2
              exact ⟨⟨j+1,M2,true,by rw [pC.o.1],by congr 1;omega,rfl,ω,pC.o.2,e3,H'⟩,by simp [intOf];omega⟩
          · have H':ag (M/2=m/2^(j+1)/\true=decide (m%2^(j+1)≠0)):=⟨e1,by rw [e2,o,qaE];exact (qaF ω).symm⟩
            have o':(Mi%2 == 1)=true:=(by simp;omega);have pC:ag (Mi/2=((M/2:Nat):Int)/\9007199254740992<=M/2):=⟨ω,ω⟩;rw [qT];clear e1 e2 hl HL Bh qT xU hM HJ;generalize M/2=M2 at *;cases lf
            · go_wp2
              exact ⟨⟨j+1,M2,true,by rw [pC.o.1],by congr 1;omega,rfl,ω,pC.o.2,e3,H'⟩,by simp [intOf];omega⟩
            · go_wp2
              exact ⟨⟨j+1,M2,true,by rw [pC.o.1],by congr 1;omega,rfl,ω,pC.o.2,e3,H'⟩,by simp [intOf];omega⟩
        · obtain ⟨X,hX⟩:∃ X:Int,X=(j:Int)-k+1:=⟨_,rfl⟩
          have X0:-120<=X:=ω;have X1:X<=12:=ω;have hX':(j:Int)-k+1=X:=hX.symm;have abm:¬ 18014398509481984<=Mi:=ω;have keys:ag (∀ c m':Nat,m'=M/2+(if M%2=1/\(lf=true\/s≠0\/M/2%2=1) then 1 else 0)->(c:Int)=(1074+X)*4503599627370496+m'->c=b0):=by
            intro c m' xW hc;obtain ⟨f1,f2⟩:=HL.o;obtain ⟨g1,g2⟩:=HM.o;refine aD.o k j c m' ω (by rw [<-g1,<-f1];exact hM) (by rw [<-g1,<-f1];omega) ?_ (by rw [hc,hX])
            rw [<-g1,<-g2,<-f1,xW,f2];simp only [decide_eq_true_eq]
          have HP:ag (Mi/2=((M/2:Nat):Int)/\4503599627370496<=M/2/\M/2<9007199254740992/\(M:Int)=Mi):=⟨ω,ω,ω,qT⟩;obtain ⟨gE,aio⟩:∃ gE:Int,Mi/2=gE:=⟨_,rfl⟩;have M2b:0<=gE:=ω;have M2c:gE<9007199254740992:=ω;rw [qT];clear HL HM aD hX Bh qT xU hM HJ;rcases Nat.mod_two_eq_zero_or_one M with o | o
          have o':(Mi%2 == 1)=false:=(by have:=HP.o.2.2.2;simp;omega);cases lf
          by_cases s0:0<s
          obtain ⟨mm,gG⟩:∃ mm:Nat,mm=M/2:=⟨_,rfl⟩;have key:ag (∀ c:Nat,(c:Int)=(1074+X)*4503599627370496+mm->c=b0):=fun c hc=>keys.o c mm (by rw [gG,Yl ζ];rfl) hc
          have m0:4503599627370496<=mm:=(by have:=HP.o;omega);have m1:mm<=9007199254740992:=(by have:=HP.o;omega);have ef:floatOfInt .f64 (gE)=1074*4503599627370496+mm:=(by rw [show gE=(mm:Int) by have:=HP.o;omega];exact sU mm m0 m1);clear keys gG HP
          rotate_left
          obtain ⟨mm,gG⟩:∃ mm:Nat,mm=M/2:=⟨_,rfl⟩;have key:ag (∀ c:Nat,(c:Int)=(1074+X)*4503599627370496+mm->c=b0):=fun c hc=>keys.o c mm (by rw [gG,Yl ζ];rfl) hc
          have m0:4503599627370496<=mm:=(by have:=HP.o;omega);have m1:mm<=9007199254740992:=(by have:=HP.o;omega);have ef:floatOfInt .f64 (gE)=1074*4503599627370496+mm:=(by rw [show gE=(mm:Int) by have:=HP.o;omega];exact sU mm m0 m1);clear keys gG HP
          rotate_left
          obtain ⟨mm,gG⟩:∃ mm:Nat,mm=M/2:=⟨_,rfl⟩;have key:ag (∀ c:Nat,(c:Int)=(1074+X)*4503599627370496+mm->c=b0):=fun c hc=>keys.o c mm (by rw [gG,Yl ζ];rfl) hc
          have m0:4503599627370496<=mm:=(by have:=HP.o;omega);have m1:mm<=9007199254740992:=(by have:=HP.o;omega);have ef:floatOfInt .f64 (gE)=1074*4503599627370496+mm:=(by rw [show gE=(mm:Int) by have:=HP.o;omega];exact sU mm m0 m1);clear keys gG HP
          rotate_left
          have o':(Mi%2 == 1)=true:=(by have:=HP.o.2.2.2;simp;omega);cases lf
          by_cases s0:0<s
          obtain ⟨mm,gG⟩:∃ mm:Nat,mm=M/2+1:=⟨_,rfl⟩;have key:ag (∀ c:Nat,(c:Int)=(1074+X)*4503599627370496+mm->c=b0):=fun c hc=>keys.o c mm (by rw [gG,Ym ζ]) hc
          have m0:4503599627370496<=mm:=(by have:=HP.o;omega);have m1:mm<=9007199254740992:=(by have:=HP.o;omega);have ef:floatOfInt .f64 (gE+1)=1074*4503599627370496+mm:=(by rw [show gE+1=(mm:Int) by have:=HP.o;omega];exact sU mm m0 m1);clear keys gG HP
          rotate_left
          rcases Nat.mod_two_eq_zero_or_one (M/2) with o2 | o2
          have o2':(gE%2 == 1)=false:=(by have:=HP.o;simp;omega);obtain ⟨mm,gG⟩:∃ mm:Nat,mm=M/2:=⟨_,rfl⟩;have key:ag (∀ c:Nat,(c:Int)=(1074+X)*4503599627370496+mm->c=b0):=fun c hc=>keys.o c mm (by rw [gG,Yl ζ];rfl) hc
          have m0:4503599627370496<=mm:=(by have:=HP.o;omega);have m1:mm<=9007199254740992:=(by have:=HP.o;omega);have ef:floatOfInt .f64 (gE)=1074*4503599627370496+mm:=(by rw [show gE=(mm:Int) by have:=HP.o;omega];exact sU mm m0 m1);clear keys gG HP
          rotate_left
          have o2':(gE%2 == 1)=true:=(by have:=HP.o;simp;omega);obtain ⟨mm,gG⟩:∃ mm:Nat,mm=M/2+1:=⟨_,rfl⟩;have key:ag (∀ c:Nat,(c:Int)=(1074+X)*4503599627370496+mm->c=b0):=fun c hc=>keys.o c mm (by rw [gG,Ym ζ]) hc
          have m0:4503599627370496<=mm:=(by have:=HP.o;omega);have m1:mm<=9007199254740992:=(by have:=HP.o;omega);have ef:floatOfInt .f64 (gE+1)=1074*4503599627370496+mm:=(by rw [show gE+1=(mm:Int) by have:=HP.o;omega];exact sU mm m0 m1);clear keys gG HP
          rotate_left
          obtain ⟨mm,gG⟩:∃ mm:Nat,mm=M/2+1:=⟨_,rfl⟩;have key:ag (∀ c:Nat,(c:Int)=(1074+X)*4503599627370496+mm->c=b0):=fun c hc=>keys.o c mm (by rw [gG,Ym ζ]) hc
          have m0:4503599627370496<=mm:=(by have:=HP.o;omega);have m1:mm<=9007199254740992:=(by have:=HP.o;omega);have ef:floatOfInt .f64 (gE+1)=1074*4503599627370496+mm:=(by rw [show gE+1=(mm:Int) by have:=HP.o;omega];exact sU mm m0 m1);clear keys gG HP
          rotate_left
          all_goals
            go_wp2
            go_loop [8,13] (fun p q=>∃ (y:Int) (c:Nat),p=By y/\q=.float .f64 c/\y<=12/\-120<=y/\ag ((c:Int)=(1074+X-y)*4503599627370496+mm)) (fun p _=>(intOf p).toNat)
            case atStart=>exact ⟨X,1074*4503599627370496+mm,by first | rfl | rw [hX'],rfl,X1,X0,show _=_ by omega⟩
            case round =>
              obtain ⟨y,c,rfl,rfl,y1,y0,hc⟩:=hrel;have c0:4200000000000000000<=c:=(by have:=hc.o;omega);have c1:c<6000000000000000000:=(by have:=hc.o;omega);by_cases hy:0<y
              · have k1:∀ w,(binOp .mul 172 (.float .f64 c) (.float .f64 4611686018427387904)).run prog w=.ok (.float .f64 (c+4503599627370496)) w:=fun w=>run_float_arith w .mul _ _ _ _ _ (abh c0 c1)
                go_wp2
                exact ⟨⟨y-1,c+4503599627370496,rfl,rfl,ω,ω,show _=_ by have:=hc.o;omega⟩,by simp [intOf];omega⟩
              · clear c0 c1
                go_wp2
                go_loop [8,13] (fun p q=>∃ (y:Int) (c:Nat),p=By y/\q=.float .f64 c/\y<=0/\-120<=y/\ag ((c:Int)=(1074+X-y)*4503599627370496+mm)) (fun p _=>(-(intOf p)).toNat)
                case atStart=>exact ⟨y,c,rfl,rfl,ω,y0,hc⟩
                case round =>
                  clear hc y0 y1 hy;obtain ⟨y,c,rfl,rfl,y1,y0,hc⟩:=hrel;have c0:4200000000000000000<=c:=(by have:=hc.o;omega);have c1:c<6000000000000000000:=(by have:=hc.o;omega);by_cases hy:y<0
                  · have k1:∀ w,(binOp .quo 172 (.float .f64 c) (.float .f64 4611686018427387904)).run prog w=.ok (.float .f64 (c-4503599627370496)) w:=fun w=>run_float_arith w .quo _ _ _ _ _ (aaB ω ω)
                    go_wp2
                    exact ⟨⟨y+1,c-4503599627370496,rfl,rfl,ω,ω,show _=_ by have:=hc.o;omega⟩,by simp [intOf];omega⟩
                  · have fc:c=b0:=key.o c (by have:=hc.o;omega)
                    clear c0 c1;go_wp2;go_ret2;exact ⟨by first | rfl | (rw [fc];rfl),rfl⟩
end Go.Proofs.YtaemofgeciklkaaGreat
namespace Go.Proofs.YtaemofgeciklkaaGreat
open Go.RowKit
def jH:Prop:=∀ (eps:Int) (ao:Option Addr) (n cp:Nat) (f:Nat->Int),-9223372036854775808<=eps->eps<9223372036854775808->n<=2000000->∀ w:World,KS w ao n f ->
  Calls prog 147 #[.slice ao n cp,By eps] w fun ex w'=>(∃ a b c err:Int,ex=χ (.tuple #[.agg #[BY a,BY b,By c],By err])/\eG eps f n a b c err/\(0<=a/\a<18446744073709551616)/\(0<=b/\b<18446744073709551616)/\(-9223372036854775808<=c/\c<9223372036854775808))/\Gw w w'
def gQ (eps fr:Int) (f:Nat->Int) (n:Nat) (k:Int) (s ic:Nat) (F T er:Int):Prop :=
  (∃ a b c,eG eps f n a b c er/\er≠0/\k=0/\s=0/\ic=0/\F=0/\T=0) \/
  (∃ a b c,eG eps f n a b c 0/\¬ (0<=fr/\fr+n<=4294967296)/\k=0/\s=0/\ic=0/\F=0/\T=0/\er=1) \/
  (∃ a b c,eG eps f n a b c 0/\(0<=fr/\fr+n<=4294967296)/\(a<18446744073709551616/\b<18446744073709551616)/\Nr (a.toNat*Un) b.toNat s/\k=f 0/\ic=floatOfInt .f64 (fr+c)/\F=fr/\T=fr+n/\er=0)
def Sb (w:World) (b:Nat) (k:Int) (s ic:Nat) (F T:Int):Prop:=w.heap[b]?=some (.cells #[BY k,.float .f64 s,.float .f64 ic,By F,By T] 174 (0,0))
variable {w:World} {b s ic:Nat} {k F T:Int}
theorem Sb.lt (h:Sb w b k s ic F T):b<w.heap.size:=(qab.1 h).1
variable {w':World}
theorem Sb.gw (h:Sb w b k s ic F T) (g:Gw w w'):Sb w' b k s ic F T:=(g.below.block b h.lt).trans h
theorem Sb.cells (h:Sb w b k s ic F T):w.cell? (φ b 0)=some (BY k)/\w.cell? (φ b 1)=some (.float .f64 s)/\w.cell? (φ b 2)=some (.float .f64 ic)/\w.cell? (φ b 3)=some (By F)/\w.cell? (φ b 4)=some (By T):=by unfold Sb at h;simp [World.cell?,h]
theorem Sb.fz (h:Sb w b k s ic F T) (o:Nat):w.frozen? (φ b o)=false:=by unfold Sb at h;simp [World.frozen?,h]
theorem iV {P:Program} {a:Addr} {m:Mode} (k:FloatKind) (n:Nat):(store a (.float k n) m).run P w=stored P w a (.float k n) m:=run_store P w a _ m rfl
attribute [local go_sem] iV
theorem abn (b:Nat):b<=V b:=by
  induction b with
  | zero=>exact Γ _
  | succ b ih=>have:=AS b;omega
theorem abo (x y:Nat) (hy:0<y):∃ b,Nr x y b:=by
  obtain ⟨b,h1,h2⟩:∃ b,V b*y<=x/\x<V (b+1)*y:=by
    have:∀ t,x<V t*y->∃ b,V b*y<=x/\x<V (b+1)*y:=by
      intro t;induction t with
      | zero=>intro h;rw [qS] at h;omega
      | succ t ih =>
        intro h;by_cases k:x<V t*y
        · exact ih k
        · exact ⟨t,ω,h⟩
    refine this (x+1) ?_;have a:=abn (x+1);have b:=Nat.mul_le_mul a hy;rw [qaE] at b;omega
  have s1:V (b+1)*y<V (b+1+1)*y:=qbq (AS (b+1)) hy;have lo:(V (b-1)+V b)*y<=2*x/\((V (b-1)+V b)*y=2*x->b%2=0):=by
    by_cases z:b=0
    · subst z;rw [qS] at *;simp
    · have:V (b-1)*y<V b*y:=qbq (vg ω) hy
      rw [qaD];exact ⟨ω,fun e=>ω⟩
  by_cases k:2*x<(V b+V (b+1))*y\/(2*x=(V b+V (b+1))*y/\b%2=0)
  · exact ⟨b,lo.1,ω,lo.2,fun e=>ω⟩
  · refine ⟨b+1,?_,?_,?_,?_⟩
    · show (V b+V (b+1))*y<=2*x
      omega
    · rw [qaD];omega
    · intro e
      have e':(V b+V (b+1))*y=2*x:=e;omega
    · intro e;rw [qaD] at e;omega
variable {a:Nat}
theorem abp (a1:a<18446744073709551616) (b1:b<18446744073709551616) (b0:0<b):∃ s,Nr (a*Un) b s/\∀ w,Calls prog 148 #[BY a,BY b] w fun e w'=>e=π #[.float .f64 s,By 0]/\w'=w:=by
  by_cases z:a=0
  · subst z
    exact ⟨0,by rw [qaR];exact Nr.zero b b0,fun w=>abg b b0 w⟩
  · obtain ⟨s,hs⟩:=abo (a*Un) b b0
    exact ⟨s,hs,fun w=>abl a b s a1 b1 ω b0 hs w⟩
theorem abq (O5:jH) (eps fr:Int) (ao:Option Addr) (n cp:Nat) (f:Nat->Int) (p0:-9223372036854775808<=eps) (p1:eps<9223372036854775808) (q0:-9223372036854775808<=fr) (q1:fr<9223372036854775808) (hn:n<=2000000) (w:World) (K:KS w ao n f) :
    Calls prog 131 #[.slice ao n cp,By eps,By fr] w fun ex w'=>(∃ (k:Int) (s ic:Nat) (F T er:Int),ex=π #[fA k s ic F T,By er]/\gQ eps fr f n k s ic F T er)/\Gw w w':=by
  have G0:ag (Gw w (w.alloc (.cells #[BY 0,.float .f64 0,.float .f64 0,By 0,By 0] 174))):=(Gw.refl w).alloc _ _;have Z0:ag (Sb (w.alloc (.cells #[BY 0,.float .f64 0,.float .f64 0,By 0,By 0] 174)) w.heap.size 0 0 0 0 0):=Ω w _;have O:ag _:=fun W (g:Gw w W)=>O5 eps ao n cp f p0 p1 hn W (K.gw g)
  have K':ag _:=K;clear K O5;go_enter func131,ntmps131;go_wp2_with fail;refine (O.o _ G0.o).mono ?_;rintro ex w1 ⟨⟨a,b,c,er,rfl,R0,ab,bb,cb⟩,g1⟩;have G:ag _:=G0.o.trans g1;have Z:ag (Sb w1 w.heap.size 0 0 0 0 0):=Z0.o.gw g1;clear G0 Z0 g1 O;by_cases h:er=0
  · subst h
    obtain ⟨z0,z1,z2,z3,z4⟩:=Z.o.cells;have zl:=Z.o.lt;have y0:=Z.o.fz 0;have y1:=Z.o.fz 1;have y2:=Z.o.fz 2;have y3:=Z.o.fz 3;have y4:=Z.o.fz 4;by_cases h1:fr<0
    · have t2:decide (fr<0)=true:=by simpa using h1
      have R:ag (gQ eps fr f n 0 0 0 0 0 1):=.inr (.inl ⟨a,b,c,R0,fun q=>ω,rfl,rfl,rfl,rfl,rfl,rfl⟩)
      clear R0 h1;go_wp2_with fail;refine bodyPost_ret (v:=.tuple #[fA 0 0 0 0 0,By 1]) (by simp [results,results131,go_sem,zl,z0,z1,z2,z3,z4]) rfl ⟨⟨0,0,0,0,0,1,rfl,R.o⟩,?_⟩
      refine Gw.alloc (Gw.setCell (Gw.setCell (Gw.setCell (Gw.setCell (Gw.setCell G.o ?_ _) ?_ _) ?_ _) ?_ _) ?_ _) _ _<;>exact Yk _
    · have t2:decide (fr<0)=false:=by simpa using h1
      have wz:IntKind.i64.wrap (4294967296-(n:Int))=4294967296-(n:Int):=(by rw [Δ];omega);by_cases h2:4294967296-(n:Int)<fr
      · have t3:decide (4294967296-(n:Int)<fr)=true:=by simpa using h2
        have R:ag (gQ eps fr f n 0 0 0 0 0 1):=.inr (.inl ⟨a,b,c,R0,fun q=>ω,rfl,rfl,rfl,rfl,rfl,rfl⟩)
        clear R0 h1 h2;go_wp2_with fail;refine bodyPost_ret (v:=.tuple #[fA 0 0 0 0 0,By 1]) (by simp [results,results131,go_sem,zl,z0,z1,z2,z3,z4]) rfl ⟨⟨0,0,0,0,0,1,rfl,R.o⟩,?_⟩
        refine Gw.alloc (Gw.setCell (Gw.setCell (Gw.setCell (Gw.setCell (Gw.setCell G.o ?_ _) ?_ _) ?_ _) ?_ _) ?_ _) _ _<;>exact Yk _
      · have t3:decide (4294967296-(n:Int)<fr)=false:=by simpa using h2
        obtain ⟨A,rfl⟩:∃ A:Nat,a=A:=⟨a.toNat,ω⟩;obtain ⟨B,rfl⟩:∃ B:Nat,b=B:=⟨b.toNat,ω⟩;have T:Told eps f n A B c:=by
          rcases R0.cases with ⟨q,_⟩ | ⟨_,q⟩
          · exact absurd rfl q
          · exact q
        have B1:=T.low.b1;have n0:=T.n0;have cc:=(T.stays ω).2;have ee:=T.e1;have eh:=T.e2;clear T;obtain ⟨s,hs,NE⟩:=abp (a:=A) (b:=B) ω ω ω;have Gj:ag _:=NE;obtain ⟨bk,off,rfl,hb,hc⟩:=(K'.o.gw G.o).cells n0;have c0:w1.cell? (φ bk off)=some (BY (f 0)):=hc 0 n0;obtain ⟨f0,hf⟩:=qbr (f 0);rw [hf] at c0;have wy:IntKind.i64.wrap (fr+c)=fr+c:=(by rw [Δ];omega);have wx:IntKind.i64.wrap (fr+(n:Int))=fr+(n:Int):=(by rw [Δ];omega);have R:ag (gQ eps fr f n f0 s (floatOfInt .f64 (fr+c)) fr (fr+n) 0):=.inr (.inr ⟨A,B,c,R0,⟨ω,ω⟩,⟨ω,ω⟩,by rw [Int.toNat_natCast,Int.toNat_natCast];exact hs,hf.symm,rfl,rfl,rfl,rfl⟩)
        have bz:bk≠w.heap.size:=(by intro q;obtain ⟨xX,vx,e,eQ,-⟩:=K'.o.cells n0;cases e;omega);clear R0 hs hf hc NE h1 h2;go_wp2_with fail;refine (Gj.o _).mono ?_;rintro ex w2 ⟨rfl,rfl⟩;go_wp2_with fail;go_region
        all_goals go_wp2_with fail
        all_goals refine bodyPost_ret (v:=.tuple #[fA f0 s (floatOfInt .f64 (fr+c)) fr (fr+n),By 0]) (by simp [results,results131,go_sem,zl,z0,z1,z2,z3,z4]) rfl ⟨⟨f0,s,floatOfInt .f64 (fr+c),fr,fr+n,0,rfl,R.o⟩,?_⟩
        all_goals (repeat (first | exact G.o | refine Gw.drew ?_ | refine Gw.drewN ?_ _ | refine Gw.alloc ?_ _ _ | refine Gw.setCell ?_ (Yk _) _))
  · have t1:(er != 0)=true:=by simpa using h
    have R:ag (gQ eps fr f n 0 0 0 0 0 er):=.inl ⟨a,b,c,R0,h,rfl,rfl,rfl,rfl,rfl⟩;clear R0 h;obtain ⟨z0,z1,z2,z3,z4⟩:=Z.o.cells;have zl:=Z.o.lt;have y0:=Z.o.fz 0;have y1:=Z.o.fz 1;have y2:=Z.o.fz 2;have y3:=Z.o.fz 3;have y4:=Z.o.fz 4;go_wp2_with fail;refine bodyPost_ret (v:=.tuple #[fA 0 0 0 0 0,By er]) (by simp [results,results131,go_sem,zl,z0,z1,z2,z3,z4]) rfl ⟨⟨0,0,0,0,0,er,rfl,R.o⟩,?_⟩
    refine Gw.alloc (Gw.setCell (Gw.setCell (Gw.setCell (Gw.setCell (Gw.setCell G.o ?_ _) ?_ _) ?_ _) ?_ _) ?_ _) _ _<;>exact Yk _
end Go.Proofs.YtaemofgeciklkaaGreat
namespace Go.Proofs.YtaemofgeciklkaaGreat
variable {eps c:Int} {f:Nat->Int} {n:Nat}
theorem eG.err {a b a' b' c' e e':Int} (h:eG eps f n a b c e) (h':eG eps f n a' b' c' e'):e=e':=(h.one h').2
variable {fr k F T:Int} {s ic:Nat}
theorem gQ.one {k':Int} {s' OA:Nat} {F' T' er OC:Int} (h:gQ eps fr f n k s ic F T er) (h':gQ eps fr f n k' s' OA F' T' OC):(k=k'/\s=s'/\ic=OA/\F=F'/\T=T')/\er=OC:=by
  rcases h with ⟨a,b,c,o,ne,rfl,rfl,rfl,rfl,rfl⟩ | ⟨a,b,c,o,nb,rfl,rfl,rfl,rfl,rfl,rfl⟩ | ⟨a,b,c,o,nb,ab,hs,rfl,rfl,rfl,rfl,rfl⟩
  · rcases h' with ⟨a',b',c',o',ne',rfl,rfl,rfl,rfl,rfl⟩ | ⟨a',b',c',o',jT,_⟩ | ⟨a',b',c',o',jT,_⟩
    · exact ⟨⟨rfl,rfl,rfl,rfl,rfl⟩,o.err o'⟩
    · exact absurd (o.err o') ne
    · exact absurd (o.err o') ne
  · rcases h' with ⟨a',b',c',o',ne',_⟩ | ⟨a',b',c',o',jT,rfl,rfl,rfl,rfl,rfl,rfl⟩ | ⟨a',b',c',o',jT,_⟩
    · exact absurd (o'.err o) ne'
    · exact ⟨⟨rfl,rfl,rfl,rfl,rfl⟩,rfl⟩
    · exact absurd jT nb
  · rcases h' with ⟨a',b',c',o',ne',_⟩ | ⟨a',b',c',o',jT,_⟩ | ⟨a',b',c',o',jT,ab',eI,rfl,rfl,rfl,rfl,rfl⟩
    · exact absurd (o'.err o) ne'
    · exact absurd nb jT
    · obtain ⟨⟨rfl,rfl,rfl⟩,-⟩:=o.one o'
      have b0:0<b.toNat:=by
        rcases o.cases with ⟨q,_⟩ | ⟨_,q⟩
        · exact absurd rfl q
        · have:=q.low.b1;omega
      exact ⟨⟨rfl,hs.uniq eI b0,rfl,rfl,rfl⟩,rfl⟩
theorem abr (k:Int) (sl ic:Nat) (fr to q:Int) (h:q<=k):dh k sl ic fr to q=dh k sl ic fr to k:=by unfold dh;rw [show (q-k).toNat=(k-k).toNat by omega]
def aB (f:Nat->Int) (q:Int):Nat->Nat
  | 0=>0
  | j+1=>aB f q j+(if f j<q then 1 else 0)
theorem pD (f:Nat->Int) (q:Int) (n:Nat):aB f q n<=n:=by
  induction n with
  | zero=>exact Yk _
  | succ n ih=>show aB f q n+(if f n<q then 1 else 0)<=n+1;split<;>omega
theorem qU (u:Up f n) (q:Int):∀ j,j<=n->(∀ i,i<aB f q j->f i<q)/\(∀ i,aB f q j<=i->i<j->q<=f i):=by
  intro j;induction j with
  | zero=>intro _;exact ⟨fun i hi=>by simp [aB] at hi,fun i _ hi=>ω⟩
  | succ j ih =>
    intro hj;obtain ⟨a,b⟩:=ih ω;have le:=pD f q j;have e:aB f q (j+1)=aB f q j+(if f j<q then 1 else 0):=rfl
    by_cases h:f j<q
    · rw [Ym h] at e
      have full:aB f q j=j:=by
        by_cases c:aB f q j=j
        · exact c
        · have x:=b (aB f q j) (Yk _) ω
          have y:=u.le (show aB f q j<=j by omega) ω
          omega
      rw [e,full];refine ⟨fun i hi=>?_,fun i h1 h2=>ω⟩
      by_cases c:i=j
      · subst c;exact h
      · exact a i ω
    · rw [Yl h] at e
      rw [e,Nat.add_zero];refine ⟨a,fun i h1 h2=>?_⟩
      by_cases c:i=j
      · subst c;omega
      · exact b i h1 ω
variable {sl:Nat} {to:Int}
theorem abt {N:Int} (h:cG sl ic fr to=0) (hn:(n:Int)=to-fr) (hk:f 0=k) (u:Up f n) (bd:∀ i,i<n->0<=f i/\f i<18446744073709551616) (N0:0<=N)
    (off:∀ i,i<n->-N<=cU k sl ic fr to f i/\cU k sl ic fr to f i<=N) (q:Int) (q1:q<18446744073709551616) (first:k<=q):-(N+1)<=dh k sl ic fr to q-(fr+aB f q n)/\dh k sl ic fr to q-(fr+aB f q n)<=N+1:=by
  obtain ⟨a,b,c,d,e⟩:=om.1 h;have n0:0<n:=ω;have k0:0<=k:=hk▸(bd 0 n0).1;obtain ⟨c1,c2⟩:=qU u q n (Yk _);have:=aa0 (f:=f) (n:=n) (g:=fun x=>dh k sl ic fr to (min x 18446744073709551615)) (lo:=fr) (N:=N) n0 (fun x y _ hxy=>aa4 h k0 ω ω) (fun i hi=>u.le (Γ i) hi)
    (fun x _=>by have:=Bf (q:=min x 18446744073709551615) h k0 ω;omega) N0 (fun i hi=>by
      have o:=off i hi;have bi:=bd i hi;unfold cU at o;rw [show min (f i) 18446744073709551615=f i by omega]
      omega) q (aB f q n) (pD f q n) c1 c2 ω
  simp only [show min q 18446744073709551615=q by omega] at this
  omega
open Go.RowKit
structure xY (k:Int) (sl ic:Nat) (fr to:Int):Prop where
  k0:0<=k
  k1:k<18446744073709551616
  s1:sl<18446744073709551616
  i1:ic<18446744073709551616
  f0:-9223372036854775808<=fr
  f1:fr<9223372036854775808
  t0:-9223372036854775808<=to
  t1:to<9223372036854775808
def abw (ex:Ending) (eps fr:Int) (f:Nat->Int) (n:Nat):Prop:=∃ (k:Int) (s ic:Nat) (F T er:Int),ex=π #[fA k s ic F T,By er]/\gQ eps fr f n k s ic F T er
def OD (ex:Ending) (k:Int) (sl ic:Nat) (fr to:Int) (n:Nat) (f:Nat->Int):Prop:=∃ N er:Int,ex=π #[By N,By er]/\sT k sl ic fr to n f N er
structure iD:Prop where
  check:∀ (k:Int) (sl ic:Nat) (fr to:Int),xY k sl ic fr to->∀ w:World,Calls prog 186 #[fA k sl ic fr to] w fun e w'=>e=χ (By (cG sl ic fr to))/\Gw w w'
  guess:∀ (k:Int) (sl ic:Nat) (fr to q:Int),xY k sl ic fr to->0<=q->q<18446744073709551616->∀ w:World,Calls prog 167 #[fA k sl ic fr to,BY q] w fun e w'=>e=χ (By (dh k sl ic fr to q))/\Gw w w'
  off:∀ (k:Int) (sl ic:Nat) (fr to:Int) (ao:Option Addr) (n cp:Nat) (f:Nat->Int),xY k sl ic fr to->n*8<=140737488351232->n<=cp->∀ w:World,KS w ao n f->Calls prog 221 #[fA k sl ic fr to,.slice ao n cp] w fun e w'=>OD e k sl ic fr to n f/\Gw w w'
  of:∀ (eps fr:Int) (ao:Option Addr) (n cp:Nat) (f:Nat->Int),-9223372036854775808<=eps->eps<9223372036854775808->-9223372036854775808<=fr->fr<9223372036854775808->n<=2000000->n<=cp->∀ w:World,KS w ao n f->Calls prog 158 #[.slice ao n cp,By eps,By fr] w fun e w'=>abw e eps fr f n/\Gw w w'
theorem abx (t:Int):floatOfInt .f64 t<18446744073709551616:=by
  obtain ⟨b,_,e⟩:=NY t;rw [e];have:min b 9218868437227405312<=9218868437227405312:=Nat.min_le_right _ _;generalize min b 9218868437227405312=m at this;unfold Ieee.Format.word;split
  · show 9223372036854775808+m<_;omega
  · omega
theorem gQ.ok {er:Int} (h:gQ eps fr f n k s ic F T er) (hn:n<=2000000) (bd:∀ i,i<n->0<=f i/\f i<18446744073709551616):xY k s ic F T:=by
  rcases h with ⟨a,b,c,o,ne,rfl,rfl,rfl,rfl,rfl⟩ | ⟨a,b,c,o,nb,rfl,rfl,rfl,rfl,rfl,rfl⟩ | ⟨a,b,c,o,nb,ab,hs,rfl,rfl,rfl,rfl,rfl⟩
  · exact ⟨γ,γ,γ,γ,γ,γ,γ,γ⟩
  · exact ⟨γ,γ,γ,γ,γ,γ,γ,γ⟩
  · obtain ⟨er,_⟩:=Oq o ω bd ab.1 ab.2 nb.1 nb.2 hs
    obtain ⟨_,_,_,sl,_⟩:=om.1 er;have n0:0<n:=by
      rcases o.cases with ⟨q,_⟩ | ⟨_,q⟩
      · exact absurd rfl q
      · exact q.n0
    exact ⟨(bd 0 n0).1,(bd 0 n0).2,ω,abx _,ω,ω,ω,ω⟩
def mh (e:Nat):Nat->Nat->Nat
  | 0,_=>0
  | g+1,n=>if n<1 then 0 else if n<=2*e-1 then 1 else mh e g (n/e+1)+1
variable {e:Nat}
theorem qV (he:2<=e) (hn:¬ n<=2*e-1):n/e+1<n:=by have h1:n/e*e<=n:=Nat.div_mul_le_self n e;have h2:n/e*2<=n/e*e:=Nat.mul_le_mul_left _ he;omega
theorem aby (he:2<=e):∀ g g' n,n<=g->n<=g'->mh e g n=mh e g' n:=by
  intro g;induction g with
  | zero =>
    intro g' n h h';cases g' with
    | zero=>rfl
    | succ g' =>
                 have:n<1:=ω
                 show 0=if n<1 then 0 else _
                 rw [Ym this]
  | succ g ih =>
    intro g' n h h';cases g' with
    | zero =>
              have:n<1:=ω
              show (if n<1 then 0 else _)=0
              rw [Ym this]
    | succ g' =>
      show (if n<1 then 0 else if n<=2*e-1 then 1 else mh e g (n/e+1)+1)=(if n<1 then 0 else if n<=2*e-1 then 1 else mh e g' (n/e+1)+1)
      by_cases h1:n<1
      · rw [Ym h1,Ym h1]
      · rw [Yl h1,Yl h1]
        by_cases h2:n<=2*e-1
        · rw [Ym h2,Ym h2]
        · rw [Yl h2,Yl h2]
          have:=qV he h2
          rw [ih g' (n/e+1) ω ω]
def iE (e n:Nat):Nat:=mh e n n
theorem abz (e:Nat):iE e 0=0:=rfl
theorem Bi (h0:0<n) (h:n<=2*e-1):iE e n=1:=by
  cases n with
  | zero=>omega
  | succ n =>
              show (if n+1<1 then 0 else if n+1<=2*e-1 then 1 else _)=1
              rw [Yl ω,Ym h]
theorem vy (he:2<=e) (h:¬ n<=2*e-1):iE e n=iE e (n/e+1)+1:=by
  have d:=qV he h;cases n with
  | zero=>omega
  | succ n =>
    show (if n+1<1 then 0 else if n+1<=2*e-1 then 1 else mh e n ((n+1)/e+1)+1)=_
    rw [Yl ω,Yl h];unfold iE;rw [aby he n ((n+1)/e+1) ((n+1)/e+1) ω (Yk _)]
theorem OE (he:2<=e) (h:0<n):0<iE e n:=by
  by_cases k:n<=2*e-1
  · rw [Bi h k];exact Nat.one_pos
  · rw [vy he k];omega
theorem OG (he:2<=e):∀ m n,n<=m->iE e n<=iE e m:=by
  intro m;induction m using Nat.strongRecOn with
  | ind m ih =>
    intro n h;by_cases h0:n=0
    · subst h0;rw [abz];exact Γ _
    · by_cases h1:n<=2*e-1
      · rw [Bi ω h1];exact OE he ω
      · have h2:¬ m<=2*e-1:=by omega
        rw [vy he h1,vy he h2];have:=ih (m/e+1) (qV he h2) (n/e+1) (by have:=Nat.div_le_div_right (c:=e) h;omega)
        omega
structure Sg where
  k:Int
  sl:Nat
  ic:Nat
  fr:Int
  te:Int
def aF:Sg:=⟨0,0,0,0,0⟩
def bu (l:List Sg) (i:Nat):Int:=(l.getD i aF).k
def qW (eps:Int) (f:Nat->Int) (i j:Nat) (s:Sg):Prop:=gQ eps i (sh f i) (j-i) s.k s.sl s.ic s.fr s.te 0
variable {i:Nat}
theorem qW.one {j:Nat} {s s':Sg} (h:qW eps f i j s) (h':qW eps f i j s'):s=s':=by obtain ⟨⟨h1,h2,h3,h4,h5⟩,_⟩:=gQ.one h h';cases s;cases s';simp only [Sg.mk.injEq];exact ⟨h1,h2,h3,h4,h5⟩
structure abA (eps:Int) (f:Nat->Int) (i j:Nat) (s:Sg):Prop where
  k:s.k=f i
  fr:s.fr=i
  te:s.te=j
  er:cG s.sl s.ic s.fr s.te=0
  off:dY (cU s.k s.sl s.ic s.fr s.te (sh f i)) (j-i)<=eps
theorem qW.facts {j:Nat} {s:Sg} (h:qW eps f i j s) (hj:i<j) (hn:j<=n) (n1:n<=2000000) (bd:∀ t,t<n->0<=f t/\f t<18446744073709551616):abA eps f i j s:=by
  rcases h with ⟨a,b,c,o,ne,_⟩ | ⟨a,b,c,o,nb,_,_,_,_,_,q⟩ | ⟨a,b,c,o,nb,ab,hs,hk,hi,hF,hT,_⟩
  · exact absurd rfl ne
  · cases q
  · have bd':∀ t,t<j-i->0<=sh f i t/\sh f i t<18446744073709551616:=fun t ht=>bd (i+t) ω
    obtain ⟨er,aw⟩:=Oq o ω bd' ab.1 ab.2 nb.1 nb.2 hs;have e1:2<=eps:=by
      rcases o.cases with ⟨q,_⟩ | ⟨_,q⟩
      · exact absurd rfl q
      · exact q.e1
    have vz:s.k=f i:=hk;refine ⟨vz,hF,?_,?_,?_⟩
    · rw [hT];omega
    · rw [hi,hF,hT];exact er
    · rw [hk,hi,hF,hT];exact Oo ω _ aw
def da (eps:Int) (f:Nat->Int) (n:Nat):Nat->List Sg->Prop
  | i,[]=>i=n
  | i,s::l=>∃ j,(i<j/\j<=n/\aY (eps-1) (sh f i) (aC (j-i))/\(j<n->¬ aY (eps-1) (sh f i) (aC (j+1-i))))/\qW eps f i j s/\da eps f n j l
theorem da.one:∀ {i:Nat} {l l':List Sg},da eps f n i l->da eps f n i l'->l=l':=by
  intro i l;induction l generalizing i with
  | nil =>
    intro l' h h';cases l' with
    | nil=>rfl
    | cons s l'=>obtain ⟨j,⟨a,b,_⟩,_⟩:=h';have:i=n:=h;omega
  | cons s l ih =>
    intro l' h h';cases l' with
    | nil=>obtain ⟨j,⟨a,b,_⟩,_⟩:=h;have:i=n:=h';omega
    | cons s' l' =>
      obtain ⟨j,⟨a,b,c,d⟩,g,r⟩:=h;obtain ⟨j',⟨a',b',c',d'⟩,g',r'⟩:=h';have e:j=j':=by
        rcases Nat.lt_trichotomy j j' with q | q | q
        · exact absurd (M3 c' (show j+1-i<=j'-i by omega)) (d ω)
        · exact q
        · exact absurd (M3 c (show j'+1-i<=j-i by omega)) (d' ω)
      subst e;rw [qW.one g g',ih r r']
theorem da.ends (n1:n<=2000000) (bd:∀ t,t<n->0<=f t/\f t<18446744073709551616):∀ {i:Nat} {l:List Sg},da eps f n i l->dr (eps-1) f n i (l.map fun s=>s.te.toNat):=by
  intro i l;induction l generalizing i with
  | nil=>exact fun h=>h
  | cons s l ih =>
    rintro ⟨j,⟨a,b,c,d⟩,g,r⟩;have F:=g.facts a b n1 bd;have e:s.te.toNat=j:=(by rw [F.te];omega);show dr (eps-1) f n i (s.te.toNat::l.map fun s=>s.te.toNat)
    rw [e];exact ⟨a,b,c,d,ih r⟩
def dK (n:Nat):Nat->List Sg->Bool
  | a,[]=>decide (a=n)
  | a,s::l=>decide (s.fr=a)&&decide ((a:Int)<s.te)&&decide (s.te<=n)&&dK n s.te.toNat l
variable {a:Nat} {l:List Sg}
theorem Bj {s:Sg}:dK n a (s::l)=true↔s.fr=a/\(a:Int)<s.te/\s.te<=n/\dK n s.te.toNat l=true:=by simp [dK,and_assoc]
theorem Gl:dK n a []=true↔a=n:=by simp [dK]
theorem da.tiles (n1:n<=2000000) (bd:∀ t,t<n->0<=f t/\f t<18446744073709551616):∀ {i:Nat} {l:List Sg},da eps f n i l->dK n i l=true:=by
  intro i l;induction l generalizing i with
  | nil=>exact fun h=>Gl.2 h
  | cons s l ih =>
    rintro ⟨j,⟨a,b,c,d⟩,g,r⟩;have F:=g.facts a b n1 bd;have e:s.te.toNat=j:=(by rw [F.te];omega);refine Bj.2 ⟨F.fr,by rw [F.te];omega,by rw [F.te];omega,?_⟩
    rw [e];exact ih r
def jU (eps:Int) (f:Nat->Int) (s:Sg):Int :=
  if cG s.sl s.ic s.fr s.te≠0 then cG s.sl s.ic s.fr s.te else if s.k≠f s.fr.toNat then 83 else if eps<dY (cU s.k s.sl s.ic s.fr s.te (sh f s.fr.toNat)) (s.te-s.fr).toNat then 85 else 0
theorem mW {s:Sg}:jU eps f s=0↔cG s.sl s.ic s.fr s.te=0/\s.k=f s.fr.toNat/\dY (cU s.k s.sl s.ic s.fr s.te (sh f s.fr.toNat)) (s.te-s.fr).toNat<=eps:=by
  unfold jU;by_cases h:cG s.sl s.ic s.fr s.te=0
  · rw [Yl (fun q=>q h)]
    by_cases h1:s.k=f s.fr.toNat
    · rw [Yl (fun q=>q h1)]
      by_cases h2:eps<dY (cU s.k s.sl s.ic s.fr s.te (sh f s.fr.toNat)) (s.te-s.fr).toNat
      · rw [Ym h2];constructor
        · intro q;cases q
        · rintro ⟨_,_,q⟩;omega
      · rw [Yl h2];exact ⟨fun _=>⟨h,h1,ω⟩,fun _=>rfl⟩
    · rw [Ym h1];constructor
      · intro q;cases q
      · rintro ⟨_,q,_⟩;exact absurd q h1
  · rw [Ym h];constructor
    · intro q;exact absurd q h
    · rintro ⟨q,_⟩;exact absurd q h
def eR (eps:Int) (f:Nat->Int):List Sg->Int
  | []=>0
  | s::l=>if jU eps f s≠0 then jU eps f s else eR eps f l
theorem Gm:eR eps f l=0↔∀ s∈l,jU eps f s=0:=by
  induction l with
  | nil=>simp [eR]
  | cons s l ih =>
    unfold eR;by_cases h:jU eps f s=0
    · rw [Yl (fun q=>q h),ih];simp [h]
    · rw [Ym h];constructor
      · intro q;exact absurd q h
      · intro q;exact absurd (q s ε) h
theorem da.right (n1:n<=2000000) (bd:∀ t,t<n->0<=f t/\f t<18446744073709551616):∀ {i:Nat} {l:List Sg},da eps f n i l->∀ s∈l,jU eps f s=0:=by
  intro i l;induction l generalizing i with
  | nil=>intro _ s hs;cases hs
  | cons s l ih =>
    rintro ⟨j,⟨a,b,c,d⟩,g,r⟩ s' eI;rcases qaf.1 eI with rfl | q
    · have F:=g.facts a b n1 bd
      have e:s'.fr.toNat=i:=(by rw [F.fr];omega);refine mW.2 ⟨F.er,by rw [e];exact F.k,?_⟩
      rw [e,show (s'.te-s'.fr).toNat=j-i by rw [F.te,F.fr];omega]
      exact F.off
    · exact ih r s' q
def mX (eps:Int):(Nat->Int)->Nat->List (List Sg)->Int
  | _,_,[]=>0
  | f,n,l::r=>if (dK n 0 l&&!l.isEmpty)=false then 82 else if eR eps f l≠0 then eR eps f l else if r=[] then (if l.length=1 then 0 else 84) else mX eps (bu l) l.length r
def du (eps:Int):(Nat->Int)->Nat->List (List Sg)->Prop
  | _,n,[]=>n=0
  | f,n,l::r=>0<n/\da eps f n 0 l/\(if l.length=1 then r=[] else du eps (bu l) l.length r)
theorem pE (u:Up f n):∀ {l:List Sg} {a:Nat},dK n a l=true->(∀ s∈l,s.k=f s.fr.toNat)->Up (bu l) l.length/\(l≠[]->bu l 0=f a/\a<n)/\∀ t,t<l.length->∃ i,a<=i/\i<n/\bu l t=f i:=by
  intro l;induction l with
  | nil=>intro a h _;exact ⟨fun j hj=>by simp at hj,fun q=>absurd rfl q,fun t ht=>by simp at ht⟩
  | cons s l ih =>
    intro a h hk;obtain ⟨h1,h2,h3,h4⟩:=Bj.1 h;obtain ⟨u1,u2,u3⟩:=ih h4 (fun s hs=>hk s (qay _ hs))
    have k0:s.k=f a:=(by rw [hk s ε,h1];congr 1);have an:a<n:=ω;refine ⟨fun j hj=>?_,fun _=>⟨k0,an⟩,fun t ht=>?_⟩
    · cases j with
      | zero =>
        have ne:l≠[]:=fun q=>by subst q;simp at hj
        obtain ⟨e,lt⟩:=u2 ne;show s.k<bu l 0;rw [k0,e];exact u.lt ω lt
      | succ j=>exact u1 j (by simpa using hj)
    · cases t with
      | zero=>exact ⟨a,Yk _,an,k0⟩
      | succ t=>obtain ⟨i,i1,i2,i3⟩:=u3 t (by simpa using ht);exact ⟨i,ω,i2,i3⟩
theorem da.keys (n1:n<=2000000) (bd:∀ t,t<n->0<=f t/\f t<18446744073709551616) (h:da eps f n i l):∀ s∈l,s.k=f s.fr.toNat:=fun s hs=>(mW.1 (h.right n1 bd s hs)).2.1
theorem Bk (bd:∀ t,t<n->0<=f t/\f t<18446744073709551616) (h:∀ t,t<l.length->∃ i,0<=i/\i<n/\bu l t=f i):∀ t,t<l.length->0<=bu l t/\bu l t<18446744073709551616:=by intro t ht;obtain ⟨i,_,i2,i3⟩:=h t ht;rw [i3];exact bd i i2
theorem da.len (n1:n<=2000000) (bd:∀ t,t<n->0<=f t/\f t<18446744073709551616) (h:da eps f n i l):i+l.length<=n:=by
  have:=(h.ends n1 bd).len
  simpa using this
theorem da.some (h:da eps f n i l) (hi:i<n):l≠[]:=by rintro rfl;have:i=n:=h;omega
theorem du.one:∀ {L L':List (List Sg)} {f:Nat->Int} {n:Nat},du eps f n L->du eps f n L'->L=L':=by
  intro L;induction L with
  | nil =>
    intro L' f n h h';cases L' with
    | nil=>rfl
    | cons l r=>have:=h'.1;have h0:n=0:=h;omega
  | cons l r ih =>
    intro L' f n h h';cases L' with
    | nil=>have:=h.1;have h0:n=0:=h';omega
    | cons l' r' =>
      obtain ⟨a,b,c⟩:=h;obtain ⟨a',b',c'⟩:=h';obtain rfl:=b.one b';by_cases q:l.length=1
      · rw [Ym q] at c c';rw [c,c']
      · rw [Yl q] at c c';rw [ih c c']
theorem du.chk:∀ {L:List (List Sg)} {f:Nat->Int} {n:Nat},n<=2000000->(∀ t,t<n->0<=f t/\f t<18446744073709551616)->Up f n->du eps f n L->mX eps f n L=0:=by
  intro L;induction L with
  | nil=>intro f n _ _ _ _;rfl
  | cons l r ih =>
    intro f n n1 bd u h;obtain ⟨a,b,c⟩:=h;have tl:=b.tiles n1 bd;have ne:=b.some a;have rt:=Gm.2 (b.right n1 bd);show (if (dK n 0 l&&!l.isEmpty)=false then 82 else if eR eps f l≠0 then eR eps f l else if r=[] then (if l.length=1 then 0 else 84) else mX eps (bu l) l.length r)=0
    rw [Yl (by rw [tl];simp [ne]),Yl (fun q=>q rt)]
    by_cases q:l.length=1
    · rw [Ym q] at c
      rw [Ym c,Ym q]
    · rw [Yl q] at c
      have r0:r≠[]:=(by rintro rfl;have:l.length=0:=c;exact ne (qbd this));rw [Yl r0];obtain ⟨u1,_,u3⟩:=pE u tl (b.keys n1 bd);have:=b.len n1 bd;exact ih ω (Bk bd u3) u1 c
theorem da.count (e1:2<=eps) (n0:0<n) (n1:n<=2000000) (bd:∀ t,t<n->0<=f t/\f t<18446744073709551616) (u:Up f n) (h:da eps f n 0 l):((l.length:Int)-1)*(2*eps-1)+1<=n:=by
  have:=(h.ends n1 bd).count ω u n0
  rw [qaS,show 2*(eps-1)+1=2*eps-1 by omega] at this
  simpa using this
theorem da.few (e1:2<=eps) (n0:0<n) (n1:n<=2000000) (bd:∀ t,t<n->0<=f t/\f t<18446744073709551616) (u:Up f n) (h:da eps f n 0 l):l.length<=n/eps.toNat+1/\(l.length≠1->¬ n<=2*eps.toNat-1):=by
  have c:=h.count e1 n0 n1 bd u;have l0:0<l.length:=qbi.2 (h.some n0);obtain ⟨e,he⟩:∃ e:Nat,eps=e:=⟨eps.toNat,ω⟩;subst he;obtain ⟨m,hm⟩:∃ m,l.length=m+1:=⟨l.length-1,ω⟩;rw [hm] at c ⊢;rw [show ((m+1:Nat):Int)-1=m by omega] at c
  rw [Int.toNat_natCast];have c':m*(2*e-1)+1<=n:=by
    have:((m*(2*e-1)+1:Nat):Int)<=n:=by
      rw [Int.natCast_add,Int.natCast_mul,show ((2*e-1:Nat):Int)=2*(e:Int)-1 by omega]
      exact c
    omega
  refine ⟨?_,fun q=>?_⟩
  · have:m<=n/e:=by rw [Nat.le_div_iff_mul_le ω];have:m*e<=m*(2*e-1):=Nat.mul_le_mul_left _ ω;omega
    omega
  · have m1:1<=m:=by omega
    have:1*(2*e-1)<=m*(2*e-1):=qam _ m1
    omega
theorem du.low (e1:2<=eps):∀ {L:List (List Sg)} {f:Nat->Int} {n:Nat},n<=2000000->(∀ t,t<n->0<=f t/\f t<18446744073709551616)->Up f n->du eps f n L->L.length<=iE eps.toNat n:=by
  intro L;induction L with
  | nil=>intro f n _ _ _ _;exact Γ _
  | cons l r ih =>
    intro f n n1 bd u h;obtain ⟨a,b,c⟩:=h;have e2:2<=eps.toNat:=ω;by_cases q:l.length=1
    · rw [Ym q] at c
      subst c;exact OE e2 a
    · rw [Yl q] at c
      obtain ⟨k1,k2⟩:=b.few e1 a n1 bd u;obtain ⟨u1,_,u3⟩:=pE u (b.tiles n1 bd) (b.keys n1 bd);have ln:=b.len n1 bd;have:=ih ω (Bk bd u3) u1 c;rw [vy e2 (k2 q)];have:=OG e2 _ _ k1;simp only [qak];omega
theorem du.none {L:List (List Sg)} (h:du eps f n L):L=[]↔n=0:=by
  cases L with
  | nil=>exact ⟨fun _=>h,fun _=>rfl⟩
  | cons l r=>exact ⟨(fun q=>by cases q),fun q=>by have:=h.1;omega⟩
theorem Gn (u:Up f n) (q:Int) (c:Nat) (hc:c<=n) (hl:∀ i,i<c->f i<q) (hr:∀ i,c<=i->i<n->q<=f i):aB f q n=c:=by
  obtain ⟨a,b⟩:=qU u q n (Yk _);have le:=pD f q n;rcases Nat.lt_trichotomy (aB f q n) c with h | h | h
  · have:=hl _ h;have:=b _ (Yk _) ω;omega
  · exact h
  · have:=a c h;have:=hr c (Yk _) ω;omega
theorem Gp:∀ {l:List Sg} {a:Nat},dK n a l=true->∀ t,t<l.length->(a:Int)<=(l.getD t aF).fr/\(l.getD t aF).fr<(l.getD t aF).te/\(l.getD t aF).te<=n/\(t=0->(l.getD t aF).fr=a)/\(t+1<l.length->(l.getD (t+1) aF).fr=(l.getD t aF).te)/\(t+1=l.length->(l.getD t aF).te=n):=by
  intro l;induction l with
  | nil=>intro a _ t ht;simp at ht
  | cons s l ih =>
    intro a h t ht;obtain ⟨h1,h2,h3,h4⟩:=Bj.1 h;cases t with
    | zero =>
      refine ⟨by show (a:Int)<=s.fr;omega,by show s.fr<s.te;omega,h3,fun _=>h1,fun q=>?_,fun q=>?_⟩
      · have:=(ih h4 0 (by simpa using q)).2.2.2.1 rfl
        show (l.getD 0 aF).fr=s.te;omega
      · have:l=[]:=by simpa using q
        subst this;have:=Gl.1 h4;show s.te=n;omega
    | succ t =>
      obtain ⟨q1,q2,q3,q4,q5,q6⟩:=ih h4 t (by simpa using ht)
      refine ⟨?_,q2,q3,fun q=>(by cases q),fun q=>q5 (by simpa using q),fun q=>q6 (by simpa using q)⟩
      show (a:Int)<=(l.getD t aF).fr;omega
theorem abB (u:Up f n) (bd:∀ t,t<n->0<=f t/\f t<18446744073709551616) (tl:dK n 0 l=true) (ok:∀ s∈l,jU eps f s=0) (q:Int) (q1:q<18446744073709551616) (t:Nat) (ht:t<l.length) (pick:t=0\/bu l t<=q) (last:∀ t',t<t'->t'<l.length->q<bu l t') (s:Sg) (hs:l.getD t aF=s) :
    (-(eps+1)<=dh s.k s.sl s.ic s.fr s.te q-aB f q n/\dh s.k s.sl s.ic s.fr s.te q-aB f q n<=eps+1)/\((∃ i,i<n/\f i=q)->-eps<=dh s.k s.sl s.ic s.fr s.te q-aB f q n/\dh s.k s.sl s.ic s.fr s.te q-aB f q n<=eps):=by
  have T:=Gp tl t ht;have mem:s∈l:=by rw [<-hs,qag,qah ht];exact qaz ht
  obtain ⟨er,hk,off⟩:=mW.1 (ok s mem);rw [hs] at T;obtain ⟨T1,T2,T3,T4,T5,T6⟩:=T;obtain ⟨a,ha⟩:∃ a:Nat,s.fr=a:=⟨s.fr.toNat,ω⟩;obtain ⟨b,hb⟩:∃ b:Nat,s.te=b:=⟨s.te.toNat,ω⟩;have ab:a<b:=ω;have bn:b<=n:=ω;have sX:s.fr.toNat=a:=ω;rw [sX] at hk off;rw [show (s.te-s.fr).toNat=b-a by omega] at off
  have sbd:∀ i,i<b-a->0<=sh f a i/\sh f a i<18446744073709551616:=fun i hi=>bd (a+i) ω
  have su:Up (sh f a) (b-a):=qK u bn;have k0:0<=s.k:=by rw [hk];exact (bd a ω).1
  obtain ⟨w0,w1⟩:=On (cU s.k s.sl s.ic s.fr s.te (sh f a)) (b-a);generalize dY (cU s.k s.sl s.ic s.fr s.te (sh f a)) (b-a)=N at off w0 w1;have xZ:∀ i,b<=i->i<n->q<f i:=fun i h1 h2=>by
    by_cases c:t+1<l.length
    · have e:=T5 c
      have m':l.getD (t+1) aF∈l:=(by rw [qag,qah c];exact qaz c);have k':=(mW.1 (ok _ m')).2.1;have lt:=last (t+1) ω c;have e2:bu l (t+1)=f b:=(by show (l.getD (t+1) aF).k=f b;rw [k',e];congr 1;omega);rw [e2] at lt;have:=u.le h1 h2;omega
    · have:=T6 ω
      omega
  by_cases c:s.k<=q
  ·
    have P:=abt er (show ((b-a:Nat):Int)=s.te-s.fr by omega) (show sh f a 0=s.k from hk.symm) su sbd w0 w1 q q1 c
    have le:=pD (sh f a) q (b-a);obtain ⟨c1,c2⟩:=qU su q (b-a) (Yk _);have cn:aB f q n=a+aB (sh f a) q (b-a):=by
      refine Gn u q _ ω (fun i hi=>?_) (fun i h1 h2=>?_)
      · by_cases x:i<a
        · have:=u.lt x (show a<n by omega)
          omega
        · have:=c1 (i-a) ω
          have e:sh f a (i-a)=f i:=(by show f (a+(i-a))=f i;rw [show a+(i-a)=i by omega]);rw [e] at this;exact this
      · by_cases x:i<b
        · have:=c2 (i-a) ω ω
          have e:sh f a (i-a)=f i:=(by show f (a+(i-a))=f i;rw [show a+(i-a)=i by omega]);rw [e] at this;exact this
        · have:=xZ i ω h2;omega
    rw [cn];refine ⟨ω,?_⟩;rintro ⟨i,hi,hq⟩;have ia:a<=i:=by
      rcases qaB i a with x | x
      · have:=u.lt x (show a<n by omega);omega
      · exact x
    have ib:i<b:=by
      rcases qaB i b with x | x
      · exact x
      · have:=xZ i x hi;omega
    have e:sh f a (i-a)=q:=(by show f (a+(i-a))=q;rw [show a+(i-a)=i by omega];exact hq);have cc:aB (sh f a) q (b-a)=i-a:=by
      refine Gn su q _ ω (fun j hj=>?_) (fun j h1 h2=>?_)
      · rw [<-e];exact su.lt hj ω
      · rw [<-e];exact su.le h1 h2
    have W:=w1 (i-a) ω;unfold cU at W;rw [e] at W;rw [cc];omega
  ·
    have t0:t=0:=by
      rcases pick with x | x
      · exact x
      · have:bu l t=s.k:=by show (l.getD t aF).k=s.k;rw [hs]
        omega
    have a0:a=0:=(by have:=T4 t0;omega);have n0:0<n:=ω;have all:∀ i,i<n->q<f i:=fun i hi=>by
      have:=u.le (Γ i) hi
      rw [a0] at hk;omega
    have cn:aB f q n=0:=Gn u q 0 (Γ _) (fun i hi=>ω) (fun i _ hi=>by have:=all i hi;omega)
    rw [cn,abr _ _ _ _ _ _ ω];have W:=w1 0 ω;unfold cU at W;have e:sh f a 0=s.k:=hk.symm;rw [e] at W;refine ⟨ω,?_⟩;rintro ⟨i,hi,hq⟩;have:=all i hi;omega
def iW (n:Nat):Int->List Sg->Bool
  | a,[]=>decide (a=n)
  | a,s::l=>decide (s.fr=a)&&decide (a<s.te)&&iW n s.te l
theorem abC:∀ {l:List Sg} {a:Int},iW n a l=true->a<=n:=by
  intro l;induction l with
  | nil =>
           intro a h;have:a=n:=by simpa [iW] using h
           omega
  | cons s l ih =>
    intro a h;have h':(s.fr=a/\a<s.te)/\iW n s.te l=true:=(by simpa [iW] using h);have:=ih h'.2
    omega
theorem abD:∀ (l:List Sg) (a:Nat),iW n a l=dK n a l:=by
  intro l;induction l with
  | nil =>
           intro a;show decide ((a:Int)=n)=decide (a=n);by_cases h:a=n
           · simp [h]
           · rw [qan ω,qan h]
  | cons s l ih =>
    intro a;have e:iW n a (s::l)=true↔dK n a (s::l)=true:=by
      rw [Bj];have u:iW n a (s::l)=true↔(s.fr=a/\(a:Int)<s.te)/\iW n s.te l=true:=(by simp [iW]);rw [u];constructor
      · rintro ⟨⟨h1,h2⟩,h3⟩
        have le:=abC h3;obtain ⟨t,ht⟩:∃ t:Nat,s.te=t:=⟨s.te.toNat,ω⟩;rw [ht] at h3 ⊢;rw [ht] at h2 le;rw [Int.toNat_natCast];exact ⟨h1,h2,le,by rw [<-ih t];exact h3⟩
      · rintro ⟨h1,h2,h3,h4⟩
        obtain ⟨t,ht⟩:∃ t:Nat,s.te=t:=⟨s.te.toNat,ω⟩;rw [ht,Int.toNat_natCast] at h4;rw [ht] at h2 ⊢;exact ⟨⟨h1,h2⟩,by rw [ih t];exact h4⟩
    cases h1:iW n a (s::l) with
    | true=>exact (e.1 h1).symm
    | false =>
      cases h2:dK n a (s::l) with
      | false=>rfl
      | true=>have:=e.2 h2;rw [h1] at this;cases this
theorem Gq {a:Int} {s:Sg}:iW n a (s::l)=(decide (s.fr=a)&&decide (a<s.te)&&iW n s.te l):=rfl
structure Bl (w:World) (b off:Nat) (s:Sg):Prop where
  c0:w.cell? (φ b off)=some (BY s.k)
  c1:w.cell? (φ b (off+1))=some (.float .f64 s.sl)
  c2:w.cell? (φ b (off+2))=some (.float .f64 s.ic)
  c3:w.cell? (φ b (off+3))=some (By s.fr)
  c4:w.cell? (φ b (off+4))=some (By s.te)
variable {w w':World} {b:Nat}
theorem Bl.gw {off:Nat} {s:Sg} (h:Bl w b off s) (hb:b<w.heap.size) (g:Gw w w'):Bl w' b off s :=
  ⟨(g.cell _ _ hb).trans h.c0,(g.cell _ _ hb).trans h.c1,(g.cell _ _ hb).trans h.c2,(g.cell _ _ hb).trans h.c3,(g.cell _ _ hb).trans h.c4⟩
abbrev Sg.ok (s:Sg):Prop:=xY s.k s.sl s.ic s.fr s.te
abbrev OH (s:Sg):Value:=fA s.k s.sl s.ic s.fr s.te
structure GS (w:World) (ao:Option Addr) (l:List Sg):Prop where
  cells:0<l.length->∃ b off,ao=some (φ b off)/\b<w.heap.size/\∀ i,i<l.length->Bl w b (off+i*5) (l.getD i aF)
  ok:∀ i,i<l.length->(l.getD i aF).ok
variable {ao:Option Addr}
theorem GS.gw (h:GS w ao l) (g:Gw w w'):GS w' ao l :=
  ⟨fun h0=>by
    obtain ⟨b,off,e,hb,hc⟩:=h.cells h0;exact ⟨b,off,e,Θ hb g.size,fun i hi=>(hc i hi).gw hb g⟩,h.ok⟩
structure VS (w:World) (ao:Option Addr) (L:List (List Sg)):Prop where
  cells:0<L.length->∃ b off,ao=some (φ b off)/\b<w.heap.size/\∀ i,i<L.length->∃ bo c,w.cell? (φ b (off+i))=some (.slice bo (L.getD i []).length c)/\(L.getD i []).length<=c/\(bo=none->(L.getD i []).length=0/\c=0)/\GS w bo (L.getD i [])
theorem VS.gw {L:List (List Sg)} (h:VS w ao L) (g:Gw w w'):VS w' ao L :=
  ⟨fun h0=>by
    obtain ⟨b,off,e,hb,hc⟩:=h.cells h0;refine ⟨b,off,e,Θ hb g.size,fun i hi=>?_⟩
    obtain ⟨bo,c,h1,h2,h3,h4⟩:=hc i hi;exact ⟨bo,c,(g.cell _ _ hb).trans h1,h2,h3,h4.gw g⟩⟩
theorem OI (h:GS w ao l):∀ t,t<l.length->0<=bu l t/\bu l t<18446744073709551616:=fun t ht=>⟨(h.ok t ht).k0,(h.ok t ht).k1⟩
theorem abE (ao:Option Addr) (c:Nat) (l:List Sg) (hl:l.length<=4000000) (w:World) (h:GS w ao l) :
    Calls prog 132 #[.slice ao l.length c] w fun e w'=>(∃ b cap,e=χ (ψ b 0 l.length cap)/\w.heap.size<=b/\l.length<=cap/\KS w' (some (φ b 0)) l.length (bu l))/\Gw w w':=by
  have HG:ag _:=h;clear h;obtain ⟨n,hn⟩:=qbr l.length;have LN:ag _:=hn;rw [hn] at hl;rw [hn];clear hn;obtain ⟨ii,aK,hz,hs,aJ⟩:=info_parts qF;have R3:ag ((w.alloc (.cells #[] 35)).ownsRow w.heap.size 35 1 (ψ w.heap.size 0 0 0) 0 ((List.range 0).map fun j=>Value.int .u64 (bu l j))):=World.ownsRow_made w #[] 0 (Yk _) (Γ _) rfl
  have G3:ag (Gw w (w.alloc (.cells #[] 35))):=(Gw.refl w).alloc _ _;have B3:ag (w.heap.size<=w.heap.size):=Yk _;go_enter func132,ntmps132;go_wp2_with fail;generalize w.alloc (.cells #[] 35)=w3 at R3 G3 ⊢;go_loopg [3,4] n (fun gg s3 s4 wr=>∃ i b cap:Nat,s3=ψ b 0 i cap/\s4=By i/\i<=n/\n-i<=gg/\ag (w.heap.size<=b)/\ag (wr.ownsRow w.heap.size 35 1 (ψ b 0 i cap) i ((List.range i).map fun j=>Value.int .u64 (bu l j)))/\ag (Gw w wr))
  case atStart=>exact ⟨0,w.heap.size,0,rfl,rfl,Γ _,ω,B3,R3,G3⟩
  case round =>
    clear R3 G3 B3;obtain ⟨i,b,cap,rfl,rfl,h1,h2,BW,R,G⟩:=hrel;by_cases ar:i<n
    · obtain ⟨bk,off,rfl,gR,hc⟩:=(HG.o.gw G.o).cells (by rw [LN.o];omega)
      have q1:=(hc i (by rw [LN.o];exact ar)).c0
      obtain ⟨fi,fB⟩:=qbr (bu l i);have FI:ag _:=fB;have q2:wr.cell? (φ bk (off+i*5))=some (BY fi):=(by rw [<-fB];exact q1);clear hc fB q1;have z0:=G.o.size;go_wp2_with (at_builtin;refine wpList_append_own _ rfl _ _ 143 rfl w.heap.size 35 ii (BY 0) 1 8 underlying143 aK hz hs aJ rfl γ _ i _ rfl (R.o.alloc _) ⟨wr.heap.size,0,none⟩ 1 1 [BY fi] rfl rfl (uY wr fi) (ints_oneCell .u64 [fi]) θ ω ζ ?_);intro v' w5 Bm iF OJ;obtain ⟨b5,cB,rfl,dZ,_,_⟩:=cJ Bm (by simpa using OJ)
      have R5:ag (w5.ownsRow w.heap.size 35 1 (ψ b5 0 (i+1) cB) (i+1) ((List.range (i+1)).map fun j=>Value.int .u64 (bu l j))):=by
        have:=Bm
        rw [<-FI.o] at this;rw [List.range_succ,qaV];exact this
      have G5:ag (Gw w w5):=(G.o.alloc _ _).grown iF (fun k hk=>by cases hk;exact BW.o)
      have B5:ag _:=dZ;clear Bm iF OJ R G BW dZ q2 FI;go_wp2_with fail;go_roundg (n-(i+1))
      case measure=>omega
      case rel=>exact ⟨i+1,b5,cB,rfl,by go_num,ω,Yk _,B5,R5,G5⟩
    · have ei:i=n:=by omega
      subst ei;have K4:ag (KS wr (some (φ b 0)) i (bu l)):=xA R.o (Yk _) (fun j hj=>by simp [hj]) (fun j hj=>OI HG.o j (by rw [LN.o];exact hj))
      obtain ⟨_,_,ev,_,ic,_⟩:=cJ R.o ε;cases ev;clear R;go_wp2_with fail;go_ret;exact ⟨⟨b,cap,rfl,BW.o,ic,K4.o⟩,G.o⟩
theorem OL (h:i<l.length):l.drop i=l.getD i aF::l.drop (i+1):=by rw [List.drop_eq_getElem_cons h,qag,qah h];rfl
def oo (n eps:Int):Int:=if 2<=eps/\eps<=64/\1<=n then (iE eps.toNat n.toNat:Nat) else 0
theorem OM (he:2<=e):∀ n,iE e n<=n:=by
  intro n;induction n using Nat.strongRecOn with
  | ind n ih =>
    by_cases h0:n=0
    · subst h0;exact Yk _
    · by_cases h1:n<=2*e-1
      · rw [Bi ω h1];omega
      · rw [vy he h1]
        have:=ih _ (qV he h1)
        have:=qV he h1
        omega
