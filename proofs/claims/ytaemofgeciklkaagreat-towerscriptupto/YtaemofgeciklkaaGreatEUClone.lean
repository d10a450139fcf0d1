import Derived.Deep.WholeRow
import Derived.Test.YtaemofgeciklkaaGreatEUMem
set_option linter.unusedVariables false
set_option maxHeartbeats 8000000
set_option maxRecDepth 20000
open Go.Proofs.Tryz
namespace Go.Proofs.YtaemofgeciklkaaGreat
open Go.RowKit
theorem Sd:(prog.info? 117).map (·.size)=some 44:=η
variable {HR:bH} {w:World} {p:Nat} {rs:List (Option Rn)} {eps buf B W:Int}
theorem adw (H:bj HR) (h:aP HR w p rs eps buf B W) :
  Calls prog 48 #[IS p] w fun e w'=>(∃ p',e=χ (.pointer (some (φ p' 0)))/\w.heap.size<=p'/\aP HR w' p' rs eps buf B W)/\Gw w w':=by
 have hp:=h.lt;have hb:=h.blk;have HC:ag (aP HR (w.alloc (.cells (eW eps buf rs B W).toArray 117)) w.heap.size rs eps buf B W):=⟨Ω w _,h.len,fun r hr=>⟨(h.runs r hr).1.gw H.kp ((Gw.refl w).alloc _ _),fun x=>Nat.lt_irrefl _ (H.lt (h.runs r hr).1.h _ x)⟩,h.e0,h.e1,h.b0,h.b1⟩
 have cF:(eW eps buf rs B W).toArray.size=44:=by simp [eW,h.len]
 have IW:(eW eps buf rs B W).toArray.all (·.oneCell')=true:=by
  rw [Array.all_eq_true'];intro u hu;have lZ:u∈eW eps buf rs B W:=by simpa using hu
  unfold eW at lZ;rcases qaf.1 lZ with rfl | lZ
  ·rfl
  rcases qaf.1 lZ with rfl | lZ
  ·rfl
  rcases qaq.1 lZ with lZ | lZ
  ·exact CU rs u lZ
  ·rcases qaf.1 lZ with rfl | lZ
   ·rfl
   rw [qbg.1 lZ];rfl
 generalize (eW eps buf rs B W).toArray=cs at hb HC cF IW;have HB:ag _:=hb;have SZ:ag _:=cF;have ON:ag _:=IW;clear hb h H IW cF;go_enter func48,ntmps48;go_wp2_with (first | refine wpList_load_row rfl _ _ rfl p rfl _ cs (0,0) _ HB.o underlying117 rfl (by rw [SZ.o];exact Sd) ?_ | refine wpList_store_row rfl _ _ _ rfl w.heap.size cs rfl rfl _ #[By 0,By 0,.pointer none,.pointer none,.pointer none,.pointer none,.pointer none,.pointer none,.pointer none,.pointer none,.pointer none,.pointer none,.pointer none,.pointer none,.pointer none,.pointer none,.pointer none,.pointer none,.pointer none,.pointer none,.pointer none,.pointer none,.pointer none,.pointer none,.pointer none,.pointer none,.pointer none,.pointer none,.pointer none,.pointer none,.pointer none,.pointer none,.pointer none,.pointer none,.pointer none,.pointer none,.pointer none,.pointer none,.pointer none,.pointer none,.pointer none,.pointer none,By 0,By 0] (Ω w _) (by rw [SZ.o];exact Sd) (by rw [SZ.o];rfl) ON.o ?_)
 rw [World.setRow_alloc_new];go_wp2_with fail;go_ret;exact ⟨⟨_,rfl,Yk _,HC.o⟩,(Gw.refl w).alloc _ _⟩
def jL (buf cl:Int):Int:=if (1<=buf/\buf<=4294967296)/\0<=cl/\cl<40 then min (buf*2^cl.toNat) 4294967296 else 0
theorem adx (buf cl:Int) (w:World) :
  Calls prog 102 #[By buf,By cl] w fun e w'=>e=χ (By (jL buf cl))/\w'=w:=by
 by_cases q:(1<=buf/\buf<=4294967296)/\0<=cl/\cl<40
 ·obtain ⟨c,rfl⟩:∃ c:Nat,cl=c:=⟨cl.toNat,ω⟩
  obtain ⟨⟨q1,q2⟩,q3,q4⟩:=q;have t1:decide (buf<1)=false:=by simpa using q1
  have t2:decide (4294967296<buf)=false:=by simpa using q2
  have t3:decide ((c:Int)<0)=false:=ε;have t4:decide ((40:Int)<=(c:Int))=false:=by simpa using q4
  have Se:c<40:=ω;have p2:(0:Int)<2^c:=Int.pow_pos γ;have MV:jL buf c=min (buf*2^c) 4294967296:=by unfold jL;rw [Ym ⟨⟨q1,q2⟩,q3,q4⟩];simp
  rw [MV];have n40:¬ 40<=c:=ω;by_cases d:(4294967296:Int)/2^c<buf
  ·have e:min (buf*2^c) 4294967296=4294967296:=(by have h1:=Int.lt_ediv_add_one_mul_self (4294967296:Int) p2;have h2:(4294967296/2^c+1)*2^c<=buf*2^c:=qae ω (Int.le_of_lt p2);omega);rw [e];have t5:decide ((4294967296:Int)/2^c<buf)=true:=(by simpa using d);clear e MV p2 q1 q2 q3 q4;have d':¬ buf<=(4294967296:Int)/2^c:=ω;clear d;go_enter func102,ntmps102;go_wp2_with fail;go_ret;exact ⟨rfl,rfl⟩
  ·have hle:buf*2^c<=4294967296:=(by have h2:buf*2^c<=4294967296/2^c*2^c:=qae ω (Int.le_of_lt p2);have h3:=Int.ediv_mul_le (4294967296:Int) (b:=2^c) ω;omega);have e:min (buf*2^c) 4294967296=buf*2^c:=ω;rw [e];have hw:wrap64 (buf*2^c)=buf*2^c:=(by have h2:(0:Int)<=buf*2^c:=qas ω (Int.le_of_lt p2);unfold wrap64;omega);have HW:ag _:=hw;have t5:decide ((4294967296:Int)/2^c<buf)=false:=(by simpa using d);have d':buf<=(4294967296:Int)/2^c:=ω;clear e MV p2 d q1 q2 q3 q4 hle hw;go_enter func102,ntmps102;go_wp2_with fail;go_ret;exact ⟨by first | rfl | (show Ending.returned (By (wrap64 (buf*2^c)))=_;rw [HW.o]),rfl⟩
 ·have MV:jL buf cl=0:=by unfold jL;rw [Yl q]
  rw [MV];have cs:buf<1\/(¬ buf<1/\4294967296<buf)\/(¬ buf<1/\¬ 4294967296<buf/\cl<0)\/(¬ buf<1/\¬ 4294967296<buf/\¬ cl<0/\40<=cl):=ω;clear q MV;rcases cs with a | ⟨a,b⟩ | ⟨a,b,c⟩ | ⟨a,b,c,d⟩
  ·have t1:decide (buf<1)=true:=(by simpa using a);clear a;go_enter func102,ntmps102;go_wp2_with fail;go_ret;exact ⟨rfl,rfl⟩
  ·have t1:decide (buf<1)=false:=(by simpa using a);have t2:decide (4294967296<buf)=true:=(by simpa using b);clear a b;go_enter func102,ntmps102;go_wp2_with fail;go_ret;exact ⟨rfl,rfl⟩
  ·have t1:decide (buf<1)=false:=(by simpa using a);have t2:decide (4294967296<buf)=false:=(by simpa using b);have t3:decide (cl<0)=true:=(by simpa using c);clear a b c;go_enter func102,ntmps102;go_wp2_with fail;go_ret;exact ⟨rfl,rfl⟩
  ·have t1:decide (buf<1)=false:=(by simpa using a);have t2:decide (4294967296<buf)=false:=(by simpa using b);have t3:decide (cl<0)=false:=(by simpa using c);have t4:decide (40<=cl)=true:=(by simpa using d);clear a b c d;go_enter func102,ntmps102;go_wp2_with fail;go_ret;exact ⟨rfl,rfl⟩
theorem Sf (o:Option Rn) (w:World):Calls prog 75 #[ptr o] w fun e w'=>e=χ (.bool o.isSome)/\w'=w:=by
 cases o with
 | none =>
  show Calls prog 75 #[.pointer none] w fun e w'=>e=χ (.bool false)/\w'=w
  go_enter func75,ntmps75;go_wp2_with fail;go_ret;exact ⟨rfl,rfl⟩
 | some r =>
  show Calls prog 75 #[IS (r.p)] w fun e w'=>e=χ (.bool true)/\w'=w
  generalize r.p=rp;go_enter func75,ntmps75;go_wp2_with fail;go_ret;exact ⟨rfl,rfl⟩
theorem ady (ao:Option Addr) (c:Nat) (rs:List (Option Rn)) (hl:rs.length<=2000000) (w:World) (h:PR HR w ao rs) :
  Calls prog 101 #[.slice ao rs.length c,.func (.func 75) #[] #[]] w fun e w'=>(∃ x:Int,e=χ (By x)/\(0<=x↔∃ r,some r∈rs))/\w'=w:=by
 have HP:ag (PR HR w ao rs):=h;obtain ⟨n,hn⟩:=qbr rs.length;have LN:ag (rs.length=n):=hn;rw [hn] at hl ⊢;clear h hn;go_enter func101,ntmps101;go_wp2_with fail;go_loopg [8] n (fun gg s8 wr=>∃ i:Nat,s8=By (i:Int)/\i<=n/\n-i<=gg/\wr=w/\ag (∀ j,j<i->rs.getD j none=none))
 case atStart=>exact ⟨0,rfl,Γ _,ω,rfl,(show ag _ from fun j hj=>ω)⟩
 case round =>
  obtain ⟨i,rfl,a1,a2,hw,N⟩:=hrel;subst hw;by_cases ar:i<n
  ·have dH:(i:Int)<(n:Int):=(by omega);have hi:i<rs.length:=(by rw [LN.o];exact ar);obtain ⟨b,off,rfl,hb,hc⟩:=HP.o.cells ω;have ci:=hc i hi;clear hc;rcases jk rs i with e | ⟨r,e⟩
   ·rw [e] at ci
    have cH:wr.cell? (φ b (off+i))=some (.pointer none):=ci;have IT:ag (Calls prog 75 #[.pointer none] wr fun e w'=>e=χ (.bool false)/\w'=wr):=Sf none wr
    have N':ag (∀ j,j<i+1->rs.getD j none=none):=fun j hj=>by
     by_cases x:j=i
     ·subst x;exact e
     ·exact N.o j ω
    clear ci e N hi;go_wp2_with fail;refine Calls.mono IT.o ?_;rintro e w3 ⟨rfl,hw⟩;have eJ:wr=w3:=hw.symm;subst eJ;go_wp2_with fail;go_roundg (n-(i+1))
    case measure=>omega
    case rel=>exact ⟨i+1,by go_num,ω,Yk _,rfl,N'⟩
   ·rw [e] at ci
    have cH:wr.cell? (φ b (off+i))=some (IS (r.p)):=ci;have IT:ag (Calls prog 75 #[IS (r.p)] wr fun e w'=>e=χ (.bool true)/\w'=wr):=Sf (some r) wr
    have av:ag (0<=(i:Int)↔∃ r,some r∈rs):=⟨fun _=>⟨r,kG hi e⟩,fun _=>Int.natCast_nonneg i⟩
    generalize r.p=rp at cH IT;clear ci e N hi;go_wp2_with fail;refine Calls.mono IT.o ?_;rintro e w3 ⟨rfl,hw⟩;have eJ:wr=w3:=hw.symm;subst eJ;go_wp2_with fail;go_ret;exact ⟨⟨_,rfl,av.o⟩,rfl⟩
  ·have ei:i=n:=(by omega);subst ei;have av:ag (0<=(-1:Int)↔∃ r,some r∈rs):=⟨fun x=>ω,fun ⟨r,hr⟩=>by
    obtain ⟨j,hj,e⟩:=List.mem_iff_getElem.1 hr;have:=N.o j (by rw [<-LN.o];exact hj)
    rw [fI hj,e] at this;cases this⟩
   clear N;go_wp2_with fail;go_ret;exact ⟨⟨_,rfl,av.o⟩,rfl⟩
theorem adz (ao:Option Addr) (c:Nat) (rs:List (Option Rn)) (hl:rs.length<=2000000) (w:World) (h:PR HR w ao rs) :
  Calls prog 74 #[.slice ao rs.length c,.func (.func 75) #[] #[]] w fun e w'=>(∃ x:Bool,e=χ (.bool x)/\(x=true↔∃ r,some r∈rs))/\w'=w:=by
 have IX:ag _:=ady ao c rs hl w h;generalize rs.length=n at IX ⊢;clear h;have yT:ag (∀ (x:Int) (b:Bool),(0<=x↔∃ r,some r∈rs)->b=decide (0<=x)->(b=true↔∃ r,some r∈rs)):=fun x b h e=>by rw [e,<-h];simp
 go_enter func74,ntmps74;go_wp2_with fail;refine Calls.mono IX.o ?_;rintro e w1 ⟨⟨x,rfl,hx⟩,hw⟩;have eJ:w=w1:=hw.symm;subst eJ;have HX:ag _:=hx;clear hx hw IX;by_cases x0:0<=x
 ·have t:decide (0<=x)=true:=by simpa using x0
  have RR:=yT.o x true HX.o t.symm;have RA:ag _:=RR;clear RR x0;go_wp2_with fail;go_ret;exact ⟨⟨_,rfl,by simpa using RA.o⟩,rfl⟩
 ·have t:decide (0<=x)=false:=by simpa using x0
  have RR:=yT.o x false HX.o t.symm;have RA:ag _:=RR;clear RR x0;go_wp2_with fail;go_ret;exact ⟨⟨_,rfl,by simpa using RA.o⟩,rfl⟩
def oO (p j:Nat):Option Addr:=if j=39 then some ⟨p,2,none⟩ else some ⟨p,2+(j+1),none⟩
theorem aP.ab (h:aP HR w p rs eps buf B W) {j:Nat} (hj:j<40):PR HR w (oO p j) (rs.drop (j+1))/\(rs.drop (j+1)).length=39-j:=by
 have l:(rs.drop (j+1)).length=39-j:=by rw [qax,h.len];omega
 refine ⟨?_,l⟩;unfold oO;by_cases q:j=39
 ·rw [Ym q]
  exact ⟨fun h0=>ω,(h.drop (j+1)).runs⟩
 ·rw [Yl q]
  exact h.drop (j+1)
theorem adA (p j:Nat) (hj:j<40) (w:World) (hp:p<w.heap.size) :
  Calls prog 86 #[IS p,By (j:Int)] w fun e w'=>e=χ (.slice (oO p j) (39-j) (39-j))/\w'=w:=by
 obtain ⟨k,hk⟩:=qbr (j+1);have wk:IntKind.i64.wrap ((j:Int)+1)=(k:Int):=by rw [Δ];omega
 by_cases q:j=39
 ·subst q
  subst hk;clear wk;go_enter func86,ntmps86;go_wp2_with fail;go_ret;exact ⟨rfl,rfl⟩
 ·have h1:¬ (40:Int)=(k:Int):=by omega
  have h2:(k:Int)<=40:=ω;have h3:¬ (40:Nat)=k:=ω;have h4:k<=40:=ω;have HK:ag (oO p j=some (φ p (2+k))/\39-j=40-k):=by refine ⟨?_,ω⟩;unfold oO;rw [Yl q,hk]
  clear hk q;go_enter func86,ntmps86;go_wp2_with fail;go_ret;exact ⟨by rw [HK.o.1,HK.o.2];rfl,rfl⟩
def tR (eps buf:Int) (j:Nat) (up:List (Option Rn)) (o:Option Rn):Bool:=match o with
 | none=>true
 | some r=>decide (0<r.l.length)&&decide ((r.l.length:Int)<=jL buf (j:Int))&&(r.eps == eps)&&r.l.all (aW (aM up))
theorem adB (H:bj HR) (h:aP HR w p rs eps buf B W) (j:Nat) (hj:j<40) :
  Calls prog 76 #[IS p,By (j:Int)] w fun e w'=>e=χ (.bool (tR eps buf j (rs.drop (j+1)) (rs.getD j none)))/\Gw w w':=by
 have cj:=h.cell hj;have hp:=h.lt;have oL:(j:Int)<40:=ω;rcases jk rs j with e | ⟨r,e⟩
 ·rw [e] at cj ⊢
  have IY:w.cell? (φ p (2+j))=some (.pointer none):=cj;show Calls prog 76 _ w fun e w'=>e=χ (.bool true)/\Gw w w'
  clear h cj e;go_enter func76,ntmps76;go_wp2_with fail;go_ret;exact ⟨rfl,Gw.refl w⟩
 ·have RR:=(h.runs r (kG (by rw [h.len];exact hj) e)).1
  rw [e] at cj ⊢;have IY:w.cell? (φ p (2+j))=some (IS (r.p)):=cj;have LE:ag _:=H.len RR.h;have HC:ag _:=h;have HH:ag _:=H;have vZ:ag _:=RR;obtain ⟨n,hn⟩:=qbr r.l.length;have few:=RR.few;rw [hn] at LE few;have FB:ag (tR eps buf j (rs.drop (j+1)) (some r)=(decide (0<n)&&decide ((n:Int)<=jL buf (j:Int))&&(r.eps == eps)&&r.l.all (aW (aM (rs.drop (j+1)))))):=by show _=_;simp only [tR,hn]
  obtain ⟨A,hA⟩:=qbr (tR eps buf j (rs.drop (j+1)) (some r));rw [hA] at FB ⊢;obtain ⟨rp,IZ⟩:=qbr r.p;have RP:ag _:=IZ;rw [IZ] at IY LE;obtain ⟨rr,I8⟩:=qbr r.eps;have REP:ag _:=I8;rw [I8] at FB;clear h H RR cj e hn hA IZ I8;go_enter func76,ntmps76;go_wp2_with fail;refine Calls.mono LE.o ?_;rintro e w1 ⟨rfl,g1⟩;have jm:ag _:=HC.o.gw HH.o.kp g1;have wh:ag _:=vZ.o.gw HH.o.kp g1;have G1:ag _:=g1;clear g1 LE HC vZ IY;go_upto_region 5 with fail;have p0:=jm.o.lt;have c0:=GX.cell jm.o.c0 p0;have c1:=GX.cell jm.o.c1 p0;obtain ⟨pp,Sp,d0,yU,yV⟩:=HH.o.pile wh.o.h;have pl:=HH.o.lt wh.o.h r.p (HH.o.own wh.o.h);have r0:=GX.cell d0 pl;rw [RP.o] at r0;have PE:ag (∀ g:GX w1,Calls prog 62 #[IS pp] g.1 fun e w'=>e=χ (By rr)/\Gw g.1 w'):=fun g=>(Hi (yU.keep fun q hq=>g.gw.below.block q (HH.o.lt wh.o.h q (yV q hq)))).mono fun e w' ⟨a,b⟩=>⟨by rw [a,REP.o],by rw [b];exact Gw.refl _⟩
  have MO:ag (∀ g:GX w1,Calls prog 102 #[By buf,By (j:Int)] g.1 fun e w'=>e=χ (By (jL buf (j:Int)))/\Gw g.1 w'):=fun g=>(adx buf (j:Int) g.1).mono fun e w' ⟨a,b⟩=>⟨a,by rw [b];exact Gw.refl _⟩
  have AB:ag (∀ g:GX w1,Calls prog 86 #[IS p,By (j:Int)] g.1 fun e w'=>e=χ (.slice (oO p j) (39-j) (39-j))/\Gw g.1 w'):=fun g=>(adA p j hj g.1 (Θ p0 g.gw.size)).mono fun e w' ⟨a,b⟩=>⟨a,by rw [b];exact Gw.refl _⟩
  have NE:ag (∀ g:GX w1,Calls prog 103 #[IS rp,.func (.func 87) #[.slice (oO p j) (39-j) (39-j)] #[]] g.1 fun e w'=>e=χ (.bool (r.l.all (aW (aM (rs.drop (j+1))))))/\Gw g.1 w'):=fun g=>by
   have:=adj HH.o (.slice (oO p j) (39-j) (39-j)) (aM (rs.drop (j+1))) g.1 (wh.o.gw HH.o.kp g.gw) (fun W gg q q0 q1=>by
    have:=Rw HH.o (oO p j) (39-j) (rs.drop (j+1)) q q0 q1 (by rw [(jm.o.ab hj).2];omega) W ((jm.o.ab hj).1.gw HH.o.kp (g.gw.trans gg))
    rw [(jm.o.ab hj).2] at this;exact this)
   rw [RP.o] at this;exact this
  generalize r.l.all (aW (aM (rs.drop (j+1))))=nd at FB NE;generalize oO p j=ab at AB NE;generalize 39-j=jn at AB NE;generalize jL buf (j:Int)=mv at FB MO;have ne:=GX.some w1;clear jm wh d0 yU yV pl;by_cases n0:n=0
  ·subst n0
   have e:A=false:=FB.o;subst e;clear FB PE MO AB NE;refine od η η ?_
   repeat (go_big_quiet_step (fail))
   refine wpQuiet_nil ?_;rintro _ ⟨gw,rfl⟩;have G2:ag _:=G1.o.trans gw.gw;go_wp2_with fail;go_ret;exact ⟨rfl,G2.o⟩
  ·have Sa:0<n:=(by omega);have I9:decide (0<n)=true:=(by simpa using Sa);by_cases nm:(n:Int)<=mv
   ·have CX:decide ((n:Int)<=mv)=true:=(by simpa using nm);by_cases ee:rr=eps
    ·have I':(rr == eps)=true:=(by simpa using ee);have e:A=nd:=(by rw [FB.o,I9,CX,I'];rfl);subst e;clear FB ee nm n0;refine od η η ?_
     repeat (go_big_quiet_step (fail))
     go_big_quiet_want;go_big_quiet_op
     go_big_quiet_call (exact gO (MO.o _))
     repeat (go_big_quiet_step (fail))
     go_big_quiet_want;go_big_quiet_op
     go_big_quiet_call (exact gO (PE.o _))
     repeat (go_big_quiet_step (fail))
     go_big_quiet_want;go_big_quiet_op
     go_big_quiet_call (exact gO (AB.o _))
     repeat (go_big_quiet_step (fail))
     go_big_quiet_want;go_big_quiet_op
     go_big_quiet_call (exact gO (NE.o _))
     repeat (go_big_quiet_step (fail))
     refine wpQuiet_nil ?_;rintro _ ⟨gw,rfl⟩;have G2:ag _:=G1.o.trans gw.gw;go_wp2_with fail;go_ret;exact ⟨rfl,G2.o⟩
    ·have I':(rr == eps)=false:=(by simpa using ee);have e:A=false:=(by rw [FB.o,I9,CX,I'];rfl);subst e;clear FB ee nm n0 NE AB;refine od η η ?_
     repeat (go_big_quiet_step (fail))
     go_big_quiet_want;go_big_quiet_op
     go_big_quiet_call (exact gO (MO.o _))
     repeat (go_big_quiet_step (fail))
     go_big_quiet_want;go_big_quiet_op
     go_big_quiet_call (exact gO (PE.o _))
     repeat (go_big_quiet_step (fail))
     refine wpQuiet_nil ?_;rintro _ ⟨gw,rfl⟩;have G2:ag _:=G1.o.trans gw.gw;go_wp2_with fail;go_ret;exact ⟨rfl,G2.o⟩
   ·have CX:decide ((n:Int)<=mv)=false:=(by simpa using nm);have e:A=false:=(by rw [FB.o,I9,CX];rfl);subst e;clear FB nm n0 NE AB PE;refine od η η ?_
    repeat (go_big_quiet_step (fail))
    go_big_quiet_want;go_big_quiet_op
    go_big_quiet_call (exact gO (MO.o _))
    repeat (go_big_quiet_step (fail))
    refine wpQuiet_nil ?_;rintro _ ⟨gw,rfl⟩;have G2:ag _:=G1.o.trans gw.gw;go_wp2_with fail;go_ret;exact ⟨rfl,G2.o⟩
