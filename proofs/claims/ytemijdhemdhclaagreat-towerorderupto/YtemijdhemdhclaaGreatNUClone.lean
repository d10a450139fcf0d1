/- Package classes: Clone, Most. -/
import Derived.Deep.WholeRow
import Derived.Test.YtemijdhemdhclaaGreatNUTell
set_option linter.unusedVariables false
set_option maxHeartbeats 8000000
set_option maxRecDepth 20000
open Go.Proofs.Tryz
namespace Go.Proofs.YtemijdhemdhclaaGreat
open Go.RowKit
def mostV (buf cl:Int):Int:=if (1<=buf/\buf<=4294967296)/\0<=cl/\cl<40 then min (buf*2^cl.toNat) 4294967296 else 0
theorem most15 (buf cl:Int) (w:World) :
  Calls prog 75 #[.int .i64 buf,.int .i64 cl] w fun e w'=>e=.returned (.int .i64 (mostV buf cl))/\w'=w:=by
 by_cases q:(1<=buf/\buf<=4294967296)/\0<=cl/\cl<40
 ·obtain ⟨c,rfl⟩:∃ c:Nat,cl=c:=⟨cl.toNat,by omega⟩
  obtain ⟨⟨q1,q2⟩,q3,q4⟩:=q;have t1:decide (buf<1)=false:=by simpa using q1
  have t2:decide (4294967296<buf)=false:=by simpa using q2
  have t3:decide ((c:Int)<0)=false:=by simp
  have t4:decide ((40:Int)<=(c:Int))=false:=by simpa using q4
  have c40:c<40:=by omega
  have p2:(0:Int)<2^c:=Int.pow_pos (by decide)
  have MV:mostV buf c=min (buf*2^c) 4294967296:=by unfold mostV;rw [if_pos ⟨⟨q1,q2⟩,q3,q4⟩];simp
  rw [MV];have n40:¬ 40<=c:=by omega
  by_cases d:(4294967296:Int)/2^c<buf
  ·have e:min (buf*2^c) 4294967296=4294967296:=by
    have h1:=Int.lt_ediv_add_one_mul_self (4294967296:Int) p2;have h2:(4294967296/2^c+1)*2^c<=buf*2^c:=Int.mul_le_mul_of_nonneg_right (by omega) (Int.le_of_lt p2)
    omega
   rw [e];have t5:decide ((4294967296:Int)/2^c<buf)=true:=by simpa using d
   clear e MV p2 q1 q2 q3 q4;have d':¬ buf<=(4294967296:Int)/2^c:=by omega
   clear d;go_enter func75,ntmps75;go_wp2_with fail;go_ret;exact ⟨rfl,rfl⟩
  ·have hle:buf*2^c<=4294967296:=by
    have h2:buf*2^c<=4294967296/2^c*2^c:=Int.mul_le_mul_of_nonneg_right (by omega) (Int.le_of_lt p2)
    have h3:=Int.ediv_mul_le (4294967296:Int) (b:=2^c) (by omega)
    omega
   have e:min (buf*2^c) 4294967296=buf*2^c:=by omega
   rw [e];have hw:wrap64 (buf*2^c)=buf*2^c:=by
    have h2:(0:Int)<=buf*2^c:=Int.mul_nonneg (by omega) (Int.le_of_lt p2)
    unfold wrap64;omega
   have HW:Aside _:=hw;have t5:decide ((4294967296:Int)/2^c<buf)=false:=by simpa using d
   have d':buf<=(4294967296:Int)/2^c:=by omega
   clear e MV p2 d q1 q2 q3 q4 hle hw;go_enter func75,ntmps75;go_wp2_with fail;go_ret;exact ⟨by first | rfl | (show Ending.returned (.int .i64 (wrap64 (buf*2^c)))=_;rw [HW.out]),rfl⟩
 ·have MV:mostV buf cl=0:=by unfold mostV;rw [if_neg q]
  rw [MV];have cs:buf<1\/(¬ buf<1/\4294967296<buf)\/(¬ buf<1/\¬ 4294967296<buf/\cl<0)\/(¬ buf<1/\¬ 4294967296<buf/\¬ cl<0/\40<=cl):=by omega
  clear q MV;rcases cs with a | ⟨a,b⟩ | ⟨a,b,c⟩ | ⟨a,b,c,d⟩
  ·have t1:decide (buf<1)=true:=by simpa using a
   clear a;go_enter func75,ntmps75;go_wp2_with fail;go_ret;exact ⟨rfl,rfl⟩
  ·have t1:decide (buf<1)=false:=by simpa using a
   have t2:decide (4294967296<buf)=true:=by simpa using b
   clear a b;go_enter func75,ntmps75;go_wp2_with fail;go_ret;exact ⟨rfl,rfl⟩
  ·have t1:decide (buf<1)=false:=by simpa using a
   have t2:decide (4294967296<buf)=false:=by simpa using b
   have t3:decide (cl<0)=true:=by simpa using c
   clear a b c;go_enter func75,ntmps75;go_wp2_with fail;go_ret;exact ⟨rfl,rfl⟩
  ·have t1:decide (buf<1)=false:=by simpa using a
   have t2:decide (4294967296<buf)=false:=by simpa using b
   have t3:decide (cl<0)=false:=by simpa using c
   have t4:decide (40<=cl)=true:=by simpa using d
   clear a b c d;go_enter func75,ntmps75;go_wp2_with fail;go_ret;exact ⟨rfl,rfl⟩
theorem isThere15 (o:Option Rn) (w:World):Calls prog 55 #[ptr o] w fun e w'=>e=.returned (.bool o.isSome)/\w'=w:=by
 cases o with
 | none =>
  show Calls prog 55 #[.pointer none] w fun e w'=>e=.returned (.bool false)/\w'=w
  go_enter func55,ntmps55;go_wp2_with fail;go_ret;exact ⟨rfl,rfl⟩
 | some r =>
  show Calls prog 55 #[.pointer (some ⟨r.p,0,none⟩)] w fun e w'=>e=.returned (.bool true)/\w'=w
  generalize r.p=rp;go_enter func55,ntmps55;go_wp2_with fail;go_ret;exact ⟨rfl,rfl⟩
theorem indexF15 {HR:HRt} (ao:Option Addr) (c:Nat) (rs:List (Option Rn)) (hl:rs.length<=2000000) (w:World) (h:PR HR w ao rs) :
  Calls prog 74 #[.slice ao rs.length c,.func (.func 55) #[] #[]] w fun e w'=>(∃ x:Int,e=.returned (.int .i64 x)/\(0<=x↔∃ r,some r∈rs))/\w'=w:=by
 have HP:Aside (PR HR w ao rs):=h;obtain ⟨n,hn⟩:∃ n,rs.length=n:=⟨_,rfl⟩;have LN:Aside (rs.length=n):=hn;rw [hn] at hl ⊢;clear h hn;go_enter func74,ntmps74;go_wp2_with fail;go_loopg [8] n (fun gg s8 wr=>∃ i:Nat,s8=.int .i64 (i:Int)/\i<=n/\n-i<=gg/\wr=w/\Aside (∀ j,j<i->rs.getD j none=none))
 case atStart=>exact ⟨0,rfl,Nat.zero_le _,by omega,rfl,(show Aside _ from fun j hj=>by omega)⟩
 case round =>
  obtain ⟨i,rfl,a1,a2,hw,N⟩:=hrel;subst hw;by_cases hlt:i<n
  ·have hlt':(i:Int)<(n:Int):=by omega
   have hi:i<rs.length:=by rw [LN.out];exact hlt
   obtain ⟨b,off,rfl,hb,hc⟩:=HP.out.cells (by omega)
   have ci:=hc i hi;clear hc;rcases cases_rs rs i with e | ⟨r,e⟩
   ·rw [e] at ci
    have ci':wr.cell? ⟨b,off+i,none⟩=some (.pointer none):=ci;have IT:Hid (Calls prog 55 #[.pointer none] wr fun e w'=>e=.returned (.bool false)/\w'=wr):=isThere15 none wr
    have N':Aside (∀ j,j<i+1->rs.getD j none=none):=fun j hj=>by
     by_cases x:j=i
     ·subst x;exact e
     ·exact N.out j (by omega)
    clear ci e N hi;go_wp2_with fail;refine Calls.mono IT.out ?_;rintro e w3 ⟨rfl,hw⟩;have hw':wr=w3:=hw.symm;subst hw';go_wp2_with fail;go_roundg (n-(i+1))
    case measure=>omega
    case rel=>exact ⟨i+1,by go_num,by omega,Nat.le_refl _,rfl,N'⟩
   ·rw [e] at ci
    have ci':wr.cell? ⟨b,off+i,none⟩=some (.pointer (some ⟨r.p,0,none⟩)):=ci;have IT:Hid (Calls prog 55 #[.pointer (some ⟨r.p,0,none⟩)] wr fun e w'=>e=.returned (.bool true)/\w'=wr):=isThere15 (some r) wr
    have RES:Aside (0<=(i:Int)↔∃ r,some r∈rs):=⟨fun _=>⟨r,mem_rs hi e⟩,fun _=>Int.natCast_nonneg i⟩
    generalize r.p=rp at ci' IT;clear ci e N hi;go_wp2_with fail;refine Calls.mono IT.out ?_;rintro e w3 ⟨rfl,hw⟩;have hw':wr=w3:=hw.symm;subst hw';go_wp2_with fail;go_ret;exact ⟨⟨_,rfl,RES.out⟩,rfl⟩
  ·have ei:i=n:=by omega
   subst ei;have RES:Aside (0<=(-1:Int)↔∃ r,some r∈rs):=⟨fun x=>by omega,fun ⟨r,hr⟩=>by
    obtain ⟨j,hj,e⟩:=List.mem_iff_getElem.1 hr;have:=N.out j (by rw [<-LN.out];exact hj)
    rw [getD_rs hj,e] at this;cases this⟩
   clear N;go_wp2_with fail;go_ret;exact ⟨⟨_,rfl,RES.out⟩,rfl⟩
theorem contains15 {HR:HRt} (ao:Option Addr) (c:Nat) (rs:List (Option Rn)) (hl:rs.length<=2000000) (w:World) (h:PR HR w ao rs) :
  Calls prog 54 #[.slice ao rs.length c,.func (.func 55) #[] #[]] w fun e w'=>(∃ x:Bool,e=.returned (.bool x)/\(x=true↔∃ r,some r∈rs))/\w'=w:=by
 have IX:Hid _:=indexF15 ao c rs hl w h;generalize rs.length=n at IX ⊢;clear h;have POST:Hid (∀ (x:Int) (b:Bool),(0<=x↔∃ r,some r∈rs)->b=decide (0<=x)->(b=true↔∃ r,some r∈rs)):=fun x b h e=>by rw [e,<-h];simp
 go_enter func54,ntmps54;go_wp2_with fail;refine Calls.mono IX.out ?_;rintro e w1 ⟨⟨x,rfl,hx⟩,hw⟩;have hw':w=w1:=hw.symm;subst hw';have HX:Hid _:=hx;clear hx hw IX;by_cases x0:0<=x
 ·have t:decide (0<=x)=true:=by simpa using x0
  have RR:=POST.out x true HX.out t.symm;have RA:Hid _:=RR;clear RR x0;go_wp2_with fail;go_ret;exact ⟨⟨_,rfl,by simpa using RA.out⟩,rfl⟩
 ·have t:decide (0<=x)=false:=by simpa using x0
  have RR:=POST.out x false HX.out t.symm;have RA:Hid _:=RR;clear RR x0;go_wp2_with fail;go_ret;exact ⟨⟨_,rfl,by simpa using RA.out⟩,rfl⟩
def abA (p j:Nat):Option Addr:=if j=39 then some ⟨p,2,none⟩ else some ⟨p,2+(j+1),none⟩
theorem HCl.ab {HR:HRt} {w:World} {p:Nat} {rs:List (Option Rn)} {eps buf B W:Int} (h:HCl HR w p rs eps buf B W) {j:Nat} (hj:j<40):PR HR w (abA p j) (rs.drop (j+1))/\(rs.drop (j+1)).length=39-j:=by
 have l:(rs.drop (j+1)).length=39-j:=by rw [List.length_drop,h.len];omega
 refine ⟨?_,l⟩;unfold abA;by_cases q:j=39
 ·rw [if_pos q]
  exact ⟨fun h0=>by omega,(h.drop (j+1)).runs⟩
 ·rw [if_neg q]
  exact h.drop (j+1)
theorem aboveX15 (p j:Nat) (hj:j<40) (w:World) (hp:p<w.heap.size) :
  Calls prog 69 #[.pointer (some ⟨p,0,none⟩),.int .i64 (j:Int)] w fun e w'=>e=.returned (.slice (abA p j) (39-j) (39-j))/\w'=w:=by
 obtain ⟨k,hk⟩:∃ k,j+1=k:=⟨_,rfl⟩;have wk:IntKind.i64.wrap ((j:Int)+1)=(k:Int):=by rw [IntKind.wrap_i64];omega
 by_cases q:j=39
 ·subst q
  subst hk;clear wk;go_enter func69,ntmps69;go_wp2_with fail;go_ret;exact ⟨rfl,rfl⟩
 ·have h1:¬ (40:Int)=(k:Int):=by omega
  have h2:(k:Int)<=40:=by omega
  have h3:¬ (40:Nat)=k:=by omega
  have h4:k<=40:=by omega
  have HK:Aside (abA p j=some ⟨p,2+k,none⟩/\39-j=40-k):=by
   refine ⟨?_,by omega⟩
   unfold abA;rw [if_neg q,hk]
  clear hk q;go_enter func69,ntmps69;go_wp2_with fail;go_ret;exact ⟨by rw [HK.out.1,HK.out.2];rfl,rfl⟩
def fitsB (eps buf:Int) (j:Nat) (up:List (Option Rn)) (o:Option Rn):Bool:=match o with
 | none=>true
 | some r=>decide (0<r.l.length)&&decide ((r.l.length:Int)<=mostV buf (j:Int))&&(r.eps == eps)&&r.l.all (keepP (liveQ up))
theorem fits15 {HR:HRt} (H:RunC HR) {w:World} {p:Nat} {rs:List (Option Rn)} {eps buf B W:Int} (h:HCl HR w p rs eps buf B W) (j:Nat) (hj:j<40) :
  Calls prog 56 #[.pointer (some ⟨p,0,none⟩),.int .i64 (j:Int)] w fun e w'=>e=.returned (.bool (fitsB eps buf j (rs.drop (j+1)) (rs.getD j none)))/\Gw w w':=by
 have cj:=h.cell hj;have hp:=h.lt;have j40:(j:Int)<40:=by omega
 rcases cases_rs rs j with e | ⟨r,e⟩
 ·rw [e] at cj ⊢
  have cj':w.cell? ⟨p,2+j,none⟩=some (.pointer none):=cj;show Calls prog 56 _ w fun e w'=>e=.returned (.bool true)/\Gw w w'
  clear h cj e;go_enter func56,ntmps56;go_wp2_with fail;go_ret;exact ⟨rfl,Gw.refl w⟩
 ·have RR:=(h.runs r (mem_rs (by rw [h.len];exact hj) e)).1
  rw [e] at cj ⊢;have cj':w.cell? ⟨p,2+j,none⟩=some (.pointer (some ⟨r.p,0,none⟩)):=cj;have LE:Hid _:=H.len RR.h;have HC:Aside _:=h;have HH:Aside _:=H;have RRA:Aside _:=RR;obtain ⟨n,hn⟩:∃ n,r.l.length=n:=⟨_,rfl⟩;have few:=RR.few;rw [hn] at LE few;have FB:Aside (fitsB eps buf j (rs.drop (j+1)) (some r)=(decide (0<n)&&decide ((n:Int)<=mostV buf (j:Int))&&(r.eps == eps)&&r.l.all (keepP (liveQ (rs.drop (j+1)))))):=by
   show _=_;simp only [fitsB,hn]
  obtain ⟨A,hA⟩:∃ A,fitsB eps buf j (rs.drop (j+1)) (some r)=A:=⟨_,rfl⟩;rw [hA] at FB ⊢;obtain ⟨rp,hrp⟩:∃ rp,r.p=rp:=⟨_,rfl⟩;have RP:Aside _:=hrp;rw [hrp] at cj' LE;obtain ⟨rr,hrr⟩:∃ rr,r.eps=rr:=⟨_,rfl⟩;have REP:Aside _:=hrr;rw [hrr] at FB;clear h H RR cj e hn hA hrp hrr;go_enter func56,ntmps56;go_wp2_with fail;refine Calls.mono LE.out ?_;rintro e w1 ⟨rfl,g1⟩;have HC1:Aside _:=HC.out.gw HH.out.kp g1;have RR1:Aside _:=RRA.out.gw HH.out.kp g1;have G1:Aside _:=g1;clear g1 LE HC RRA cj';go_upto_region 5 with fail;have p0:=HC1.out.lt;have c0:=GX.cell HC1.out.c0 p0;have c1:=GX.cell HC1.out.c1 p0;obtain ⟨pp,Sp,d0,hpi,hSp⟩:=HH.out.pile RR1.out.h;have pl:=HH.out.lt RR1.out.h r.p (HH.out.own RR1.out.h);have r0:=GX.cell d0 pl;rw [RP.out] at r0;have PE:Hid (∀ g:GX w1,Calls prog 76 #[.pointer (some ⟨pp,0,none⟩)] g.1 fun e w'=>e=.returned (.int .i64 rr)/\Gw g.1 w'):=fun g=>(pl_eps (hpi.keep fun q hq=>g.gw.below.block q (HH.out.lt RR1.out.h q (hSp q hq)))).mono fun e w' ⟨a,b⟩=>⟨by rw [a,REP.out],by rw [b];exact Gw.refl _⟩
  have MO:Hid (∀ g:GX w1,Calls prog 75 #[.int .i64 buf,.int .i64 (j:Int)] g.1 fun e w'=>e=.returned (.int .i64 (mostV buf (j:Int)))/\Gw g.1 w'):=fun g=>(most15 buf (j:Int) g.1).mono fun e w' ⟨a,b⟩=>⟨a,by rw [b];exact Gw.refl _⟩
  have AB:Hid (∀ g:GX w1,Calls prog 69 #[.pointer (some ⟨p,0,none⟩),.int .i64 (j:Int)] g.1 fun e w'=>e=.returned (.slice (abA p j) (39-j) (39-j))/\Gw g.1 w'):=fun g=>(aboveX15 p j hj g.1 (Nat.lt_of_lt_of_le p0 g.gw.size)).mono fun e w' ⟨a,b⟩=>⟨a,by rw [b];exact Gw.refl _⟩
  have NE:Hid (∀ g:GX w1,Calls prog 77 #[.pointer (some ⟨rp,0,none⟩),.func (.func 70) #[.slice (abA p j) (39-j) (39-j)] #[]] g.1 fun e w'=>e=.returned (.bool (r.l.all (keepP (liveQ (rs.drop (j+1))))))/\Gw g.1 w'):=fun g=>by
   have:=needs15 HH.out (.slice (abA p j) (39-j) (39-j)) (liveQ (rs.drop (j+1))) g.1 (RR1.out.gw HH.out.kp g.gw) (fun W gg q q0 q1=>by
    have:=live15 HH.out (abA p j) (39-j) (rs.drop (j+1)) q q0 q1 (by rw [(HC1.out.ab hj).2];omega) W ((HC1.out.ab hj).1.gw HH.out.kp (g.gw.trans gg))
    rw [(HC1.out.ab hj).2] at this;exact this)
   rw [RP.out] at this;exact this
  generalize r.l.all (keepP (liveQ (rs.drop (j+1))))=nd at FB NE;generalize abA p j=ab at AB NE;generalize 39-j=jn at AB NE;generalize mostV buf (j:Int)=mv at FB MO;have ne:=GX.some w1;clear HC1 RR1 d0 hpi hSp pl;by_cases n0:n=0
  ·subst n0
   have e:A=false:=FB.out;subst e;clear FB PE MO AB NE;refine wp_region_growx (by kernel_rfl) (by kernel_rfl) ?_
   repeat (go_big_quiet_step (fail))
   refine wpQuiet_nil ?_;rintro _ ⟨gw,rfl⟩;have G2:Aside _:=G1.out.trans gw.gw;go_wp2_with fail;go_ret;exact ⟨rfl,G2.out⟩
  ·have n0':0<n:=by omega
   have n0d:decide (0<n)=true:=by simpa using n0'
   by_cases nm:(n:Int)<=mv
   ·have nm':decide ((n:Int)<=mv)=true:=by simpa using nm
    by_cases ee:rr=eps
    ·have ee':(rr == eps)=true:=by simpa using ee
     have e:A=nd:=by rw [FB.out,n0d,nm',ee'];rfl
     subst e;clear FB ee nm n0;refine wp_region_growx (by kernel_rfl) (by kernel_rfl) ?_
     repeat (go_big_quiet_step (fail))
     go_big_quiet_want;go_big_quiet_op
     go_big_quiet_call (exact growx_of (MO.out _))
     repeat (go_big_quiet_step (fail))
     go_big_quiet_want;go_big_quiet_op
     go_big_quiet_call (exact growx_of (PE.out _))
     repeat (go_big_quiet_step (fail))
     go_big_quiet_want;go_big_quiet_op
     go_big_quiet_call (exact growx_of (AB.out _))
     repeat (go_big_quiet_step (fail))
     go_big_quiet_want;go_big_quiet_op
     go_big_quiet_call (exact growx_of (NE.out _))
     repeat (go_big_quiet_step (fail))
     refine wpQuiet_nil ?_;rintro _ ⟨gw,rfl⟩;have G2:Aside _:=G1.out.trans gw.gw;go_wp2_with fail;go_ret;exact ⟨rfl,G2.out⟩
    ·have ee':(rr == eps)=false:=by simpa using ee
     have e:A=false:=by rw [FB.out,n0d,nm',ee'];rfl
     subst e;clear FB ee nm n0 NE AB;refine wp_region_growx (by kernel_rfl) (by kernel_rfl) ?_
     repeat (go_big_quiet_step (fail))
     go_big_quiet_want;go_big_quiet_op
     go_big_quiet_call (exact growx_of (MO.out _))
     repeat (go_big_quiet_step (fail))
     go_big_quiet_want;go_big_quiet_op
     go_big_quiet_call (exact growx_of (PE.out _))
     repeat (go_big_quiet_step (fail))
     refine wpQuiet_nil ?_;rintro _ ⟨gw,rfl⟩;have G2:Aside _:=G1.out.trans gw.gw;go_wp2_with fail;go_ret;exact ⟨rfl,G2.out⟩
   ·have nm':decide ((n:Int)<=mv)=false:=by simpa using nm
    have e:A=false:=by rw [FB.out,n0d,nm'];rfl
    subst e;clear FB nm n0 NE AB PE;refine wp_region_growx (by kernel_rfl) (by kernel_rfl) ?_
    repeat (go_big_quiet_step (fail))
    go_big_quiet_want;go_big_quiet_op
    go_big_quiet_call (exact growx_of (MO.out _))
    repeat (go_big_quiet_step (fail))
    refine wpQuiet_nil ?_;rintro _ ⟨gw,rfl⟩;have G2:Aside _:=G1.out.trans gw.gw;go_wp2_with fail;go_ret;exact ⟨rfl,G2.out⟩
end Go.Proofs.YtemijdhemdhclaaGreat
