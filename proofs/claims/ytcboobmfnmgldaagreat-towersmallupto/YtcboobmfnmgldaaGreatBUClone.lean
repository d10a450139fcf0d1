/- Package classes: Clone, Most. -/
import Derived.Deep.WholeRow
import Derived.Test.YtcboobmfnmgldaaGreatBUTk
set_option linter.unusedVariables false
set_option maxHeartbeats 8000000
set_option maxRecDepth 20000
open Go.Proofs.Tryz
namespace Go.Proofs.YtcboobmfnmgldaaGreat
open Go.RowKit
def ct (buf cl:Int):Int:=if (1<=buf/\buf<=4294967296)/\0<=cl/\cl<40 then min (buf*2^cl.toNat) 4294967296 else 0
theorem abM (buf cl:Int) (w:World) :
  Calls prog 103 #[AI buf,AI cl] w fun e w'=>e=.returned (AI (ct buf cl))/\w'=w:=by
 by_cases q:(1<=buf/\buf<=4294967296)/\0<=cl/\cl<40
 ·obtain ⟨c,rfl⟩:∃ c:Nat,cl=c:=⟨cl.toNat,by omega⟩
  obtain ⟨⟨q1,q2⟩,q3,q4⟩:=q;have t1:decide (buf<1)=false:=by simpa using q1
  have t2:decide (4294967296<buf)=false:=by simpa using q2
  have t3:decide ((c:Int)<0)=false:=by simp
  have t4:decide ((40:Int)<=(c:Int))=false:=by simpa using q4
  have c40:c<40:=by omega
  have p2:(0:Int)<2^c:=Int.pow_pos (by decide)
  have MV:ct buf c=min (buf*2^c) 4294967296:=by unfold ct;rw [if_pos ⟨⟨q1,q2⟩,q3,q4⟩];simp
  rw [MV];have n40:¬ 40<=c:=by omega
  by_cases d:(4294967296:Int)/2^c<buf
  ·have e:min (buf*2^c) 4294967296=4294967296:=by
    have h1:=Int.lt_ediv_add_one_mul_self (4294967296:Int) p2;have h2:(4294967296/2^c+1)*2^c<=buf*2^c:=Int.mul_le_mul_of_nonneg_right (by omega) (Int.le_of_lt p2)
    omega
   rw [e];have t5:decide ((4294967296:Int)/2^c<buf)=true:=by simpa using d
   clear e MV p2 q1 q2 q3 q4;have d':¬ buf<=(4294967296:Int)/2^c:=by omega
   clear d;go_enter func103,ntmps103;go_wp2_with fail;go_ret;exact ⟨rfl,rfl⟩
  ·have hle:buf*2^c<=4294967296:=by
    have h2:buf*2^c<=4294967296/2^c*2^c:=Int.mul_le_mul_of_nonneg_right (by omega) (Int.le_of_lt p2)
    have h3:=Int.ediv_mul_le (4294967296:Int) (b:=2^c) (by omega)
    omega
   have e:min (buf*2^c) 4294967296=buf*2^c:=by omega
   rw [e];have hw:wrap64 (buf*2^c)=buf*2^c:=by
    have h2:(0:Int)<=buf*2^c:=Int.mul_nonneg (by omega) (Int.le_of_lt p2)
    unfold wrap64;omega
   have HW:ag _:=hw;have t5:decide ((4294967296:Int)/2^c<buf)=false:=by simpa using d
   have d':buf<=(4294967296:Int)/2^c:=by omega
   clear e MV p2 d q1 q2 q3 q4 hle hw;go_enter func103,ntmps103;go_wp2_with fail;go_ret;exact ⟨by first | rfl | (show Ending.returned (AI (wrap64 (buf*2^c)))=_;rw [HW.o]),rfl⟩
 ·have MV:ct buf cl=0:=by unfold ct;rw [if_neg q]
  rw [MV];have cs:buf<1\/(¬ buf<1/\4294967296<buf)\/(¬ buf<1/\¬ 4294967296<buf/\cl<0)\/(¬ buf<1/\¬ 4294967296<buf/\¬ cl<0/\40<=cl):=by omega
  clear q MV;rcases cs with a | ⟨a,b⟩ | ⟨a,b,c⟩ | ⟨a,b,c,d⟩
  ·have t1:decide (buf<1)=true:=by simpa using a
   clear a;go_enter func103,ntmps103;go_wp2_with fail;go_ret;exact ⟨rfl,rfl⟩
  ·have t1:decide (buf<1)=false:=by simpa using a
   have t2:decide (4294967296<buf)=true:=by simpa using b
   clear a b;go_enter func103,ntmps103;go_wp2_with fail;go_ret;exact ⟨rfl,rfl⟩
  ·have t1:decide (buf<1)=false:=by simpa using a
   have t2:decide (4294967296<buf)=false:=by simpa using b
   have t3:decide (cl<0)=true:=by simpa using c
   clear a b c;go_enter func103,ntmps103;go_wp2_with fail;go_ret;exact ⟨rfl,rfl⟩
  ·have t1:decide (buf<1)=false:=by simpa using a
   have t2:decide (4294967296<buf)=false:=by simpa using b
   have t3:decide (cl<0)=false:=by simpa using c
   have t4:decide (40<=cl)=true:=by simpa using d
   clear a b c d;go_enter func103,ntmps103;go_wp2_with fail;go_ret;exact ⟨rfl,rfl⟩
variable {buf:Int}
theorem abN {c:Nat} (h:1<=buf/\buf<=4294967296) (hc:c<40):ct buf (c:Int)=min (buf*2^c) 4294967296:=by
 unfold ct;rw [if_pos ⟨h,by omega,by omega⟩]
 simp
theorem abO (buf cl:Int) (w:World) :
  Calls prog 79 #[AI buf,AI cl] w fun e w'=>e=.returned (AI (ct buf cl))/\w'=w:=by
 by_cases q:(1<=buf/\buf<=4294967296)/\0<=cl/\cl<40
 ·obtain ⟨c,rfl⟩:∃ c:Nat,cl=c:=⟨cl.toNat,by omega⟩
  obtain ⟨⟨q1,q2⟩,q3,q4⟩:=q;have t1:decide (buf<1)=false:=by simpa using q1
  have t2:decide (4294967296<buf)=false:=by simpa using q2
  have t3:decide ((c:Int)<0)=false:=by simp
  have t4:decide ((40:Int)<=(c:Int))=false:=by simpa using q4
  have n40:¬ 40<=c:=by omega
  have MV:=abN ⟨q1,q2⟩ (show c<40 by omega)
  obtain ⟨A,hA⟩:∃ A,ct buf (c:Int)=A:=⟨_,rfl⟩;rw [hA] at MV ⊢;have ak:ag _:=MV;clear MV hA q3 q4;have PW:ag (∀ i:Nat,(0:Int)<2^i):=fun i=>Int.pow_pos (by decide)
  go_enter func79,ntmps79;go_wp2_with fail;go_loopg [0,5] c (fun gg s0 s5 wr=>∃ (i:Nat) (b:Int),s0=AI b/\s5=AI (i:Int)/\i<=c/\c-i<=gg/\1<=b/\b<=4294967296/\ag (b=buf*2^i)/\wr=w)
  case atStart=>exact ⟨0,buf,rfl,rfl,Nat.zero_le _,by omega,q1,q2,(show ag _ by show _=_;simp),rfl⟩
  case round =>
   obtain ⟨i,b,rfl,rfl,a1,a2,b1,b2,EB,hw⟩:=hrel;subst hw;by_cases ar:i<c
   ·have eZ:(i:Int)<(c:Int):=by omega
    by_cases d:2147483648<=b
    ·have t5:decide (2147483648<=b)=true:=by simpa using d
     have e:A=4294967296:=by
      rw [ak.o];have e1:buf*2^c=b*2^(c-i):=by rw [EB.o,Int.mul_assoc,<-Int.pow_add,show i+(c-i)=c by omega]
      have e2:(2:Int)<=2^(c-i):=by
       obtain ⟨m,hm⟩:∃ m,c-i=m+1:=⟨c-i-1,by omega⟩
       rw [hm,Int.pow_succ];have:=PW.o m;omega
      have e3:b*2<=b*2^(c-i):=Int.mul_le_mul_of_nonneg_left e2 (by omega)
      omega
     subst e;clear d ak EB;go_wp2_with fail;go_ret;exact ⟨rfl,rfl⟩
    ·have t5:decide (2147483648<=b)=false:=by simpa using d
     have EB':ag (2*b=buf*2^(i+1)):=by
      show _=_;rw [EB.o,Int.pow_succ,<-Int.mul_assoc buf (2^i) 2,Int.mul_comm]
     have b3:1<=2*b:=by omega
     have b4:2*b<=4294967296:=by omega
     clear d EB;go_wp2_with fail;go_roundg (c-(i+1))
     case measure=>omega
     case rel=>exact ⟨i+1,2*b,by go_num,by go_num,by omega,Nat.le_refl _,b3,b4,EB',rfl⟩
   ·have ei:i=c:=by omega
    subst ei;have e:A=b:=by rw [ak.o,<-EB.o];omega
    subst e;clear ak EB;go_wp2_with fail;go_ret;exact ⟨rfl,rfl⟩
 ·have MV:ct buf cl=0:=by unfold ct;rw [if_neg q]
  rw [MV];have cs:buf<1\/(¬ buf<1/\4294967296<buf)\/(¬ buf<1/\¬ 4294967296<buf/\cl<0)\/(¬ buf<1/\¬ 4294967296<buf/\¬ cl<0/\40<=cl):=by omega
  clear q MV;rcases cs with a | ⟨a,b⟩ | ⟨a,b,c⟩ | ⟨a,b,c,d⟩
  ·have t1:decide (buf<1)=true:=by simpa using a
   clear a;go_enter func79,ntmps79;go_wp2_with fail;go_ret;exact ⟨rfl,rfl⟩
  ·have t1:decide (buf<1)=false:=by simpa using a
   have t2:decide (4294967296<buf)=true:=by simpa using b
   clear a b;go_enter func79,ntmps79;go_wp2_with fail;go_ret;exact ⟨rfl,rfl⟩
  ·have t1:decide (buf<1)=false:=by simpa using a
   have t2:decide (4294967296<buf)=false:=by simpa using b
   have t3:decide (cl<0)=true:=by simpa using c
   clear a b c;go_enter func79,ntmps79;go_wp2_with fail;go_ret;exact ⟨rfl,rfl⟩
  ·have t1:decide (buf<1)=false:=by simpa using a
   have t2:decide (4294967296<buf)=false:=by simpa using b
   have t3:decide (cl<0)=false:=by simpa using c
   have t4:decide (40<=cl)=true:=by simpa using d
   clear a b c d;go_enter func79,ntmps79;go_wp2_with fail;go_ret;exact ⟨rfl,rfl⟩
theorem Qx (o:Option Rn) (w:World):Calls prog 66 #[ptr o] w fun e w'=>e=.returned (.bool o.isSome)/\w'=w:=by
 cases o with
 | none =>
  show Calls prog 66 #[.pointer none] w fun e w'=>e=.returned (.bool false)/\w'=w
  go_enter func66,ntmps66;go_wp2_with fail;go_ret;exact ⟨rfl,rfl⟩
 | some r =>
  show Calls prog 66 #[BY (r.p)] w fun e w'=>e=.returned (.bool true)/\w'=w
  generalize r.p=rp;go_enter func66,ntmps66;go_wp2_with fail;go_ret;exact ⟨rfl,rfl⟩
variable {HR:bQ}
theorem abP (ao:Option Addr) (c:Nat) (rs:List (Option Rn)) (hl:rs.length<=2000000) (w:World) (h:PR HR w ao rs) :
  Calls prog 102 #[.slice ao rs.length c,.func (.func 66) #[] #[]] w fun e w'=>(∃ x:Int,e=.returned (AI x)/\(0<=x↔∃ r,some r∈rs))/\w'=w:=by
 have HP:ag (PR HR w ao rs):=h;obtain ⟨n,hn⟩:∃ n,rs.length=n:=⟨_,rfl⟩;have LN:ag (rs.length=n):=hn;rw [hn] at hl ⊢;clear h hn;go_enter func102,ntmps102;go_wp2_with fail;go_loopg [8] n (fun gg s8 wr=>∃ i:Nat,s8=AI (i:Int)/\i<=n/\n-i<=gg/\wr=w/\ag (∀ j,j<i->rs.getD j none=none))
 case atStart=>exact ⟨0,rfl,Nat.zero_le _,by omega,rfl,(show ag _ from fun j hj=>by omega)⟩
 case round =>
  obtain ⟨i,rfl,a1,a2,hw,N⟩:=hrel;subst hw;by_cases ar:i<n
  ·have eZ:(i:Int)<(n:Int):=by omega
   have hi:i<rs.length:=by rw [LN.o];exact ar
   obtain ⟨b,off,rfl,hb,hc⟩:=HP.o.cells (by omega)
   have ci:=hc i hi;clear hc;rcases iW rs i with e | ⟨r,e⟩
   ·rw [e] at ci
    have dq:wr.cell? ⟨b,off+i,none⟩=some (.pointer none):=ci;have IT:ag (Calls prog 66 #[.pointer none] wr fun e w'=>e=.returned (.bool false)/\w'=wr):=Qx none wr
    have N':ag (∀ j,j<i+1->rs.getD j none=none):=fun j hj=>by
     by_cases x:j=i
     ·subst x;exact e
     ·exact N.o j (by omega)
    clear ci e N hi;go_wp2_with fail;refine Calls.mono IT.o ?_;rintro e w3 ⟨rfl,hw⟩;have dR:wr=w3:=hw.symm;subst dR;go_wp2_with fail;go_roundg (n-(i+1))
    case measure=>omega
    case rel=>exact ⟨i+1,by go_num,by omega,Nat.le_refl _,rfl,N'⟩
   ·rw [e] at ci
    have dq:wr.cell? ⟨b,off+i,none⟩=some (BY (r.p)):=ci;have IT:ag (Calls prog 66 #[BY (r.p)] wr fun e w'=>e=.returned (.bool true)/\w'=wr):=Qx (some r) wr
    have ak:ag (0<=(i:Int)↔∃ r,some r∈rs):=⟨fun _=>⟨r,jo hi e⟩,fun _=>Int.natCast_nonneg i⟩
    generalize r.p=rp at dq IT;clear ci e N hi;go_wp2_with fail;refine Calls.mono IT.o ?_;rintro e w3 ⟨rfl,hw⟩;have dR:wr=w3:=hw.symm;subst dR;go_wp2_with fail;go_ret;exact ⟨⟨_,rfl,ak.o⟩,rfl⟩
  ·have ei:i=n:=by omega
   subst ei;have ak:ag (0<=(-1:Int)↔∃ r,some r∈rs):=⟨fun x=>by omega,fun ⟨r,hr⟩=>by
    obtain ⟨j,hj,e⟩:=List.mem_iff_getElem.1 hr;have:=N.o j (by rw [<-LN.o];exact hj)
    rw [fs hj,e] at this;cases this⟩
   clear N;go_wp2_with fail;go_ret;exact ⟨⟨_,rfl,ak.o⟩,rfl⟩
theorem abQ (ao:Option Addr) (c:Nat) (rs:List (Option Rn)) (hl:rs.length<=2000000) (w:World) (h:PR HR w ao rs) :
  Calls prog 65 #[.slice ao rs.length c,.func (.func 66) #[] #[]] w fun e w'=>(∃ x:Bool,e=.returned (.bool x)/\(x=true↔∃ r,some r∈rs))/\w'=w:=by
 have IX:ag _:=abP ao c rs hl w h;generalize rs.length=n at IX ⊢;clear h;have wP:ag (∀ (x:Int) (b:Bool),(0<=x↔∃ r,some r∈rs)->b=decide (0<=x)->(b=true↔∃ r,some r∈rs)):=fun x b h e=>by rw [e,<-h];simp
 go_enter func65,ntmps65;go_wp2_with fail;refine Calls.mono IX.o ?_;rintro e w1 ⟨⟨x,rfl,hx⟩,hw⟩;have dR:w=w1:=hw.symm;subst dR;have HX:ag _:=hx;clear hx hw IX;by_cases x0:0<=x
 ·have t:decide (0<=x)=true:=by simpa using x0
  have RR:=wP.o x true HX.o t.symm;have RA:ag _:=RR;clear RR x0;go_wp2_with fail;go_ret;exact ⟨⟨_,rfl,by simpa using RA.o⟩,rfl⟩
 ·have t:decide (0<=x)=false:=by simpa using x0
  have RR:=wP.o x false HX.o t.symm;have RA:ag _:=RR;clear RR x0;go_wp2_with fail;go_ret;exact ⟨⟨_,rfl,by simpa using RA.o⟩,rfl⟩
def mR (p j:Nat):Option Addr:=if j=39 then some ⟨p,2,none⟩ else some ⟨p,2+(j+1),none⟩
theorem aP.ab {w:World} {p:Nat} {rs:List (Option Rn)} {eps B W:Int} (h:aP HR w p rs eps buf B W) {j:Nat} (hj:j<40):PR HR w (mR p j) (rs.drop (j+1))/\(rs.drop (j+1)).length=39-j:=by
 have l:(rs.drop (j+1)).length=39-j:=by rw [List.length_drop,h.len];omega
 refine ⟨?_,l⟩;unfold mR;by_cases q:j=39
 ·rw [if_pos q]
  exact ⟨fun h0=>by omega,(h.drop (j+1)).runs⟩
 ·rw [if_neg q]
  exact h.drop (j+1)
theorem abR (p j:Nat) (hj:j<40) (w:World) (hp:p<w.heap.size) :
  Calls prog 87 #[BY p,AI (j:Int)] w fun e w'=>e=.returned (.slice (mR p j) (39-j) (39-j))/\w'=w:=by
 obtain ⟨k,hk⟩:∃ k,j+1=k:=⟨_,rfl⟩;have wk:IntKind.i64.wrap ((j:Int)+1)=(k:Int):=by rw [IntKind.wrap_i64];omega
 by_cases q:j=39
 ·subst q
  subst hk;clear wk;go_enter func87,ntmps87;go_wp2_with fail;go_ret;exact ⟨rfl,rfl⟩
 ·have h1:¬ (40:Int)=(k:Int):=by omega
  have h2:(k:Int)<=40:=by omega
  have h3:¬ (40:Nat)=k:=by omega
  have h4:k<=40:=by omega
  have HK:ag (mR p j=some ⟨p,2+k,none⟩/\39-j=40-k):=by
   refine ⟨?_,by omega⟩
   unfold mR;rw [if_neg q,hk]
  clear hk q;go_enter func87,ntmps87;go_wp2_with fail;go_ret;exact ⟨by rw [HK.o.1,HK.o.2];rfl,rfl⟩
def iX (eps buf:Int) (j:Nat) (up:List (Option Rn)) (o:Option Rn):Bool:=match o with
 | none=>true
 | some r=>decide (0<r.l.length)&&decide ((r.l.length:Int)<=ct buf (j:Int))&&(r.eps == eps)&&r.l.all (bB (aI up))
theorem abS (H:bJ HR) {w:World} {p:Nat} {rs:List (Option Rn)} {eps B W:Int} (h:aP HR w p rs eps buf B W) (j:Nat) (hj:j<40) :
  Calls prog 67 #[BY p,AI (j:Int)] w fun e w'=>e=.returned (.bool (iX eps buf j (rs.drop (j+1)) (rs.getD j none)))/\Gw w w':=by
 have cj:=h.cell hj;have hp:=h.lt;have uc:(j:Int)<40:=by omega
 rcases iW rs j with e | ⟨r,e⟩
 ·rw [e] at cj ⊢
  have rL:w.cell? ⟨p,2+j,none⟩=some (.pointer none):=cj;show Calls prog 67 _ w fun e w'=>e=.returned (.bool true)/\Gw w w'
  clear h cj e;go_enter func67,ntmps67;go_wp2_with fail;go_ret;exact ⟨rfl,Gw.refl w⟩
 ·have RR:=(h.runs r (jo (by rw [h.len];exact hj) e)).1
  rw [e] at cj ⊢;have rL:w.cell? ⟨p,2+j,none⟩=some (BY (r.p)):=cj;have LE:ag _:=H.len RR.h;have HC:ag _:=h;have HH:ag _:=H;have ud:ag _:=RR;obtain ⟨n,hn⟩:∃ n,r.l.length=n:=⟨_,rfl⟩;have few:=RR.few;rw [hn] at LE few;have FB:ag (iX eps buf j (rs.drop (j+1)) (some r)=(decide (0<n)&&decide ((n:Int)<=ct buf (j:Int))&&(r.eps == eps)&&r.l.all (bB (aI (rs.drop (j+1)))))):=by
   show _=_;simp only [iX,hn]
  obtain ⟨A,hA⟩:∃ A,iX eps buf j (rs.drop (j+1)) (some r)=A:=⟨_,rfl⟩;rw [hA] at FB ⊢;obtain ⟨rp,Gf⟩:∃ rp,r.p=rp:=⟨_,rfl⟩;have RP:ag _:=Gf;rw [Gf] at rL LE;obtain ⟨rr,Gg⟩:∃ rr,r.eps=rr:=⟨_,rfl⟩;have REP:ag _:=Gg;rw [Gg] at FB;clear h H RR cj e hn hA Gf Gg;go_enter func67,ntmps67;go_wp2_with fail;refine Calls.mono LE.o ?_;rintro e w1 ⟨rfl,g1⟩;have iH:ag _:=HC.o.gw HH.o.kp g1;have uo:ag _:=ud.o.gw HH.o.kp g1;have G1:ag _:=g1;clear g1 LE HC ud rL;go_upto_region 5 with fail;have p0:=iH.o.lt;have c0:=GX.cell iH.o.c0 p0;have c1:=GX.cell iH.o.c1 p0;obtain ⟨pp,Sp,d0,Qy,Qz⟩:=HH.o.pile uo.o.h;have pl:=HH.o.lt uo.o.h r.p (HH.o.own uo.o.h);have r0:=GX.cell d0 pl;rw [RP.o] at r0;have PE:ag (∀ g:GX w1,Calls prog 104 #[BY pp] g.1 fun e w'=>e=.returned (AI rr)/\Gw g.1 w'):=fun g=>(Nc (Qy.keep fun q hq=>g.gw.below.block q (HH.o.lt uo.o.h q (Qz q hq)))).mono fun e w' ⟨a,b⟩=>⟨by rw [a,REP.o],by rw [b];exact Gw.refl _⟩
  have MO:ag (∀ g:GX w1,Calls prog 103 #[AI buf,AI (j:Int)] g.1 fun e w'=>e=.returned (AI (ct buf (j:Int)))/\Gw g.1 w'):=fun g=>(abM buf (j:Int) g.1).mono fun e w' ⟨a,b⟩=>⟨a,by rw [b];exact Gw.refl _⟩
  have AB:ag (∀ g:GX w1,Calls prog 87 #[BY p,AI (j:Int)] g.1 fun e w'=>e=.returned (.slice (mR p j) (39-j) (39-j))/\Gw g.1 w'):=fun g=>(abR p j hj g.1 (Nat.lt_of_lt_of_le p0 g.gw.size)).mono fun e w' ⟨a,b⟩=>⟨a,by rw [b];exact Gw.refl _⟩
  have NE:ag (∀ g:GX w1,Calls prog 105 #[BY rp,.func (.func 88) #[.slice (mR p j) (39-j) (39-j)] #[]] g.1 fun e w'=>e=.returned (.bool (r.l.all (bB (aI (rs.drop (j+1))))))/\Gw g.1 w'):=fun g=>by
   have:=abk HH.o (.slice (mR p j) (39-j) (39-j)) (aI (rs.drop (j+1))) g.1 (uo.o.gw HH.o.kp g.gw) (fun W gg q q0 q1=>by
    have:=OM HH.o (mR p j) (39-j) (rs.drop (j+1)) q q0 q1 (by rw [(iH.o.ab hj).2];omega) W ((iH.o.ab hj).1.gw HH.o.kp (g.gw.trans gg))
    rw [(iH.o.ab hj).2] at this;exact this)
   rw [RP.o] at this;exact this
  generalize r.l.all (bB (aI (rs.drop (j+1))))=nd at FB NE;generalize mR p j=ab at AB NE;generalize 39-j=jn at AB NE;generalize ct buf (j:Int)=mv at FB MO;have ne:=GX.some w1;clear iH uo d0 Qy Qz pl;by_cases n0:n=0
  ·subst n0
   have e:A=false:=FB.o;subst e;clear FB PE MO AB NE;refine jc (by kernel_rfl) (by kernel_rfl) ?_
   repeat (go_big_quiet_step (fail))
   refine wpQuiet_nil ?_;rintro _ ⟨gw,rfl⟩;have G2:ag _:=G1.o.trans gw.gw;go_wp2_with fail;go_ret;exact ⟨rfl,G2.o⟩
  ·have Pb:0<n:=by omega
   have Gh:decide (0<n)=true:=by simpa using Pb
   by_cases nm:(n:Int)<=mv
   ·have AG:decide ((n:Int)<=mv)=true:=by simpa using nm
    by_cases ee:rr=eps
    ·have Gi:(rr == eps)=true:=by simpa using ee
     have e:A=nd:=by rw [FB.o,Gh,AG,Gi];rfl
     subst e;clear FB ee nm n0;refine jc (by kernel_rfl) (by kernel_rfl) ?_
     repeat (go_big_quiet_step (fail))
     go_big_quiet_want;go_big_quiet_op
     go_big_quiet_call (exact eW (MO.o _))
     repeat (go_big_quiet_step (fail))
     go_big_quiet_want;go_big_quiet_op
     go_big_quiet_call (exact eW (PE.o _))
     repeat (go_big_quiet_step (fail))
     go_big_quiet_want;go_big_quiet_op
     go_big_quiet_call (exact eW (AB.o _))
     repeat (go_big_quiet_step (fail))
     go_big_quiet_want;go_big_quiet_op
     go_big_quiet_call (exact eW (NE.o _))
     repeat (go_big_quiet_step (fail))
     refine wpQuiet_nil ?_;rintro _ ⟨gw,rfl⟩;have G2:ag _:=G1.o.trans gw.gw;go_wp2_with fail;go_ret;exact ⟨rfl,G2.o⟩
    ·have Gi:(rr == eps)=false:=by simpa using ee
     have e:A=false:=by rw [FB.o,Gh,AG,Gi];rfl
     subst e;clear FB ee nm n0 NE AB;refine jc (by kernel_rfl) (by kernel_rfl) ?_
     repeat (go_big_quiet_step (fail))
     go_big_quiet_want;go_big_quiet_op
     go_big_quiet_call (exact eW (MO.o _))
     repeat (go_big_quiet_step (fail))
     go_big_quiet_want;go_big_quiet_op
     go_big_quiet_call (exact eW (PE.o _))
     repeat (go_big_quiet_step (fail))
     refine wpQuiet_nil ?_;rintro _ ⟨gw,rfl⟩;have G2:ag _:=G1.o.trans gw.gw;go_wp2_with fail;go_ret;exact ⟨rfl,G2.o⟩
   ·have AG:decide ((n:Int)<=mv)=false:=by simpa using nm
    have e:A=false:=by rw [FB.o,Gh,AG];rfl
    subst e;clear FB nm n0 NE AB PE;refine jc (by kernel_rfl) (by kernel_rfl) ?_
    repeat (go_big_quiet_step (fail))
    go_big_quiet_want;go_big_quiet_op
    go_big_quiet_call (exact eW (MO.o _))
    repeat (go_big_quiet_step (fail))
    refine wpQuiet_nil ?_;rintro _ ⟨gw,rfl⟩;have G2:ag _:=G1.o.trans gw.gw;go_wp2_with fail;go_ret;exact ⟨rfl,G2.o⟩
end Go.Proofs.YtcboobmfnmgldaaGreat
