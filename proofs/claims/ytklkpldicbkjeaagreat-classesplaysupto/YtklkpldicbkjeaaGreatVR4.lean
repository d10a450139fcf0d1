/- The document's own answer for layer 4: products, lowest terms, which fraction is below. -/
import Derived.Test.YtklkpldicbkjeaaGreatVPBs
set_option linter.unusedVariables false
set_option maxHeartbeats 1000000
open Go.Proofs.Tryz
namespace Go.Proofs.YtklkpldicbkjeaaGreat
open Go.RowKit
theorem ZD (a1 a0 b1 b0:Int):(a1*4294967296+a0)*(b1*4294967296+b0)=a1*b1*18446744073709551616+(a1*b0+a0*b1)*4294967296+a0*b0:=by
 rw [Int.add_mul,Int.mul_add,Int.mul_add,kO a1 4294967296 b1 4294967296,Int.mul_right_comm a1 4294967296 b0,<-Int.mul_assoc a0 b1 4294967296,Int.add_mul];omega
theorem za {x y:Int} (hx:0<=x) (gX:x<4294967296) (hy:0<=y) (fY:y<4294967296):0<=x*y/\x*y<=18446744065119617025:=by
 refine ⟨Int.mul_nonneg hx hy,?_⟩;have h1:x*y<=4294967295*y:=Int.mul_le_mul_of_nonneg_right (by omega) hy
 omega
theorem uU {x:Int} (h:0<=x):x.tdiv 4294967296=x/4294967296:=Int.tdiv_eq_ediv_of_nonneg h
theorem zd {x:Int} (h:0<=x):x.tmod 4294967296=x%4294967296:=Int.tmod_eq_emod_of_nonneg h
theorem wu {x:Int} (h:0<=x) (h':x<18446744073709551616):IntKind.u64.wrap x=x:=by rw [IntKind.wrap_u64];omega
theorem ZE (a b x0 x1 y0 y1 oS uV uW uX t0 one t1 two t2 t3 t4 t5 t6 hi lo:Int)
  (r1:a.tmod 4294967296=x0) (r2:IntKind.u64.wrap (a.tdiv 4294967296)=x1) (r3:b.tmod 4294967296=y0) (r4:IntKind.u64.wrap (b.tdiv 4294967296)=y1)
  (r5:IntKind.u64.wrap (x0*y0)=oS) (r6:IntKind.u64.wrap (oS.tdiv 4294967296)=t0) (r7:IntKind.u64.wrap (x1*y0)=uV) (r8:IntKind.u64.wrap (uV+t0)=one)
  (r9:IntKind.u64.wrap (x0*y1)=uW) (uG:one.tmod 4294967296=t1) (r11:IntKind.u64.wrap (uW+t1)=two) (r12:IntKind.u64.wrap (x1*y1)=uX)
  (r13:IntKind.u64.wrap (one.tdiv 4294967296)=t2) (r14:IntKind.u64.wrap (uX+t2)=t3) (r15:IntKind.u64.wrap (two.tdiv 4294967296)=t4) (r16:IntKind.u64.wrap (t3+t4)=hi)
  (r17:IntKind.u64.wrap (two*4294967296)=t5) (r18:oS.tmod 4294967296=t6) (r19:IntKind.u64.wrap (t5+t6)=lo) (w:World) :
  Calls prog 146 #[.int .u64 a,.int .u64 b] w fun e w'=>e=.returned (.tuple #[.int .u64 hi,.int .u64 lo])/\w'=w:=by
 go_enter func146,ntmps146;go_wp2;go_ret2;exact ⟨rfl,rfl⟩
theorem Ls (a b:Int) (a0:0<=a) (a1:a<18446744073709551616) (b0:0<=b) (b1:b<18446744073709551616) (w:World) :
  Calls prog 146 #[.int .u64 a,.int .u64 b] w fun e w'=>e=.returned (.tuple #[.int .u64 (a*b/18446744073709551616),.int .u64 (a*b%18446744073709551616)])/\w'=w:=by
 obtain ⟨x0,ZF⟩:∃ x,a%4294967296=x:=⟨_,rfl⟩;obtain ⟨x1,ZG⟩:∃ x,a/4294967296=x:=⟨_,rfl⟩;obtain ⟨y0,gS⟩:∃ x,b%4294967296=x:=⟨_,rfl⟩;obtain ⟨y1,gR⟩:∃ x,b/4294967296=x:=⟨_,rfl⟩;have ea:a=x1*4294967296+x0:=by omega
 have eb:b=y1*4294967296+y0:=by omega
 have m:=ZD x1 x0 y1 y0;rw [<-ea,<-eb] at m;have ZH:=za (x:=x0) (y:=y0) (by omega) (by omega) (by omega) (by omega)
 have C5:=za (x:=x1) (y:=y0) (by omega) (by omega) (by omega) (by omega)
 have ZI:=za (x:=x0) (y:=y1) (by omega) (by omega) (by omega) (by omega)
 have C6:=za (x:=x1) (y:=y1) (by omega) (by omega) (by omega) (by omega)
 obtain ⟨oS,Lt⟩:∃ p,x0*y0=p:=⟨_,rfl⟩;obtain ⟨uV,Lu⟩:∃ p,x1*y0=p:=⟨_,rfl⟩;obtain ⟨uW,ze⟩:∃ p,x0*y1=p:=⟨_,rfl⟩;obtain ⟨uX,Lv⟩:∃ p,x1*y1=p:=⟨_,rfl⟩;rw [Lt] at ZH m;rw [Lu] at C5 m;rw [ze] at ZI m;rw [Lv] at C6 m;obtain ⟨one,ZJ⟩:∃ x,uV+oS/4294967296=x:=⟨_,rfl⟩;obtain ⟨two,ZK⟩:∃ x,uW+one%4294967296=x:=⟨_,rfl⟩;generalize a*b=ab at m ⊢;refine ZE a b x0 x1 y0 y1 oS uV uW uX (oS/4294967296) one (one%4294967296) two (one/4294967296) (uX+one/4294967296) (two/4294967296) (two*4294967296%18446744073709551616) (oS%4294967296) _ _
  (by rw [zd a0];exact ZF) (by rw [uU a0,wu (by omega) (by omega)];exact ZG) (by rw [zd b0];exact gS) (by rw [uU b0,wu (by omega) (by omega)];exact gR)
  (by rw [Lt,wu (by omega) (by omega)]) (by rw [uU (by omega),wu (by omega) (by omega)]) (by rw [Lu,wu (by omega) (by omega)]) (by rw [ZJ,wu (by omega) (by omega)])
  (by rw [ze,wu (by omega) (by omega)]) (zd (by omega)) (by rw [ZK,wu (by omega) (by omega)]) (by rw [Lv,wu (by omega) (by omega)])
  (by rw [uU (by omega),wu (by omega) (by omega)]) (by rw [wu (by omega) (by omega)]) (by rw [uU (by omega),wu (by omega) (by omega)]) (by rw [wu (by omega) (by omega)];omega)
  (by rw [IntKind.wrap_u64]) (zd (by omega)) (by rw [IntKind.wrap_u64];omega) w
theorem uY (a b c d:Int) (a0:0<=a) (a1:a<18446744073709551616) (b0:0<=b) (b1:b<18446744073709551616) (c0:0<=c) (c1:c<18446744073709551616) (d0:0<=d) (d1:d<18446744073709551616) (w:World) :
  Calls prog 125 #[.agg #[.int .u64 a,.int .u64 b],.agg #[.int .u64 c,.int .u64 d]] w fun e w'=>(∃ r:Bool,e=.returned (.bool r)/\(r=true↔eO a b c d))/\Gw w w':=by
 have hG:=((Gw.refl w).alloc #[.int .u64 a,.int .u64 b] 189).alloc #[.int .u64 c,.int .u64 d] 189;have GG:ag _:=hG;clear hG;by_cases hb:b=0
 ·subst hb
  go_enter func125,ntmps125;go_wp2_with fail;go_ret;exact ⟨⟨false,by simp,by simp [eO]⟩,GG.o⟩
 ·have cY:(b == 0)=false:=by simpa using hb
  by_cases hd:d=0
  ·subst hd
   go_enter func125,ntmps125;go_wp2_with fail;go_ret;exact ⟨⟨true,by simp [hb],by simp [eO,hb]⟩,GG.o⟩
  ·have mq:(d == 0)=false:=by simpa using hd
   go_enter func125,ntmps125;go_wp2_with fail;refine (Ls a d a0 a1 d0 d1 _).mono ?_;rintro e w1 ⟨rfl,rfl⟩;go_wp2_with fail;refine (Ls c b c0 c1 b0 b1 _).mono ?_;rintro e w1 ⟨rfl,rfl⟩;obtain ⟨xh,Lw⟩:∃ x,a*d/18446744073709551616=x:=⟨_,rfl⟩;obtain ⟨xl,nK⟩:∃ x,a*d%18446744073709551616=x:=⟨_,rfl⟩;obtain ⟨yh,Lx⟩:∃ x,c*b/18446744073709551616=x:=⟨_,rfl⟩;obtain ⟨yl,Ly⟩:∃ x,c*b%18446744073709551616=x:=⟨_,rfl⟩;rw [Lw,nK,Lx,Ly];have K:ag (eO a b c d↔(xh<yh\/(xh=yh/\xl<yl))):=by
    show eO a b c d↔_;unfold eO;constructor
    ·intro hh
     rcases hh with ⟨_,q⟩ | ⟨_,_,q⟩
     ·exact absurd q hd
     ·omega
    ·intro hh
     exact .inr ⟨hb,hd,by omega⟩
   clear Lw nK Lx Ly a0 a1 b0 b1 c0 c1 d0 d1;rcases Int.lt_trichotomy xh yh with q | q | q
   ·go_wp2_with fail
    go_ret
    exact ⟨⟨true,by simp,by rw [K.o];simp [q]⟩,GG.o⟩
   ·subst q
    go_wp2_with fail;go_ret
    exact ⟨⟨decide (xl<yl),by simp,by rw [K.o];simp⟩,GG.o⟩
   ·have q1:¬ xh<yh:=by omega
    have q2:(xh == yh)=false:=by simp;omega
    go_wp2_with fail;go_ret
    exact ⟨⟨false,by simp [q1],by rw [K.o];simp;omega⟩,GG.o⟩
structure tu (num den c d g:Int):Prop where
 g0:0<g
 ec:c*g=num
 ed:d*g=den
 low:Int.gcd c d=1
 c0:0<=c
 d1:1<=d
 cb:c<=num
 db:d<=den
theorem ZL (num den:Nat) (h0:0<den):tu num den ((num/num.gcd den:Nat):Int) ((den/num.gcd den:Nat):Int) (num.gcd den:Nat):=by
 have hg:0<num.gcd den:=Nat.gcd_pos_of_pos_right _ h0;have e1:num/num.gcd den*num.gcd den=num:=Nat.div_mul_cancel (Nat.gcd_dvd_left _ _);have e2:den/num.gcd den*num.gcd den=den:=Nat.div_mul_cancel (Nat.gcd_dvd_right _ _);refine ⟨by omega,by rw [<-Int.natCast_mul,e1],by rw [<-Int.natCast_mul,e2],?_,Int.natCast_nonneg _,?_,by have:=Nat.div_le_self num (num.gcd den);omega,by have:=Nat.div_le_self den (num.gcd den);omega⟩
 ·have:=Nat.coprime_div_gcd_div_gcd (m:=num) (n:=den) hg
  exact this
 ·have:0<den/num.gcd den:=Nat.div_pos (Nat.le_of_dvd h0 (Nat.gcd_dvd_right _ _)) hg
  omega
theorem ZM (num den:Nat) (hn:num<18446744073709551616) (hd:den<18446744073709551616) (h0:0<den) (w:World) :
  Calls prog 124 #[.int .u64 num,.int .u64 den] w fun e w'=>e=.returned (.agg #[.int .u64 ((num/num.gcd den:Nat):Int),.int .u64 ((den/num.gcd den:Nat):Int)])/\Gw w w':=by
 have hg:0<num.gcd den:=Nat.gcd_pos_of_pos_right _ h0;have h2:((num.gcd den:Int) == 0)=false:=by simp;omega
 have e1:(num:Int)/(num.gcd den:Nat)=((num/num.gcd den:Nat):Int):=(Int.natCast_ediv _ _).symm;have e2:(den:Int)/(num.gcd den:Nat)=((den/num.gcd den:Nat):Int):=(Int.natCast_ediv _ _).symm;have b1:num/num.gcd den<18446744073709551616:=Nat.lt_of_le_of_lt (Nat.div_le_self _ _) hn;have b2:den/num.gcd den<18446744073709551616:=Nat.lt_of_le_of_lt (Nat.div_le_self _ _) hd;generalize num/num.gcd den=a at *;generalize den/num.gcd den=b at *;generalize hG:num.gcd den=G at *;have Lz:ag _:=hG;clear hG;go_enter func124,ntmps124;go_wp2_with fail;go_loopg [5,6] den (fun gg p q wr=>∃ c d:Nat,p=.int .u64 c/\q=.int .u64 d/\c<18446744073709551616/\d<18446744073709551616/\d<=gg/\ag (Nat.gcd c d=G)/\wr=w.alloc (.cells #[.int .u64 0,.int .u64 0] 189))
 case atStart=>exact ⟨num,den,rfl,rfl,hn,hd,Nat.le_refl _,Lz,rfl⟩
 case round =>
  obtain ⟨c,d,rfl,rfl,hc,mq,hgk,Da,rfl⟩:=hrel;by_cases h:d=0
  ·subst h
   obtain rfl:c=G:=by
    have:=Da.o
    rw [Nat.gcd_zero_right] at this;exact this
   clear Da Lz;go_wp2_with fail;go_region
   all_goals
    go_wp2_with fail;refine bodyPost_ret (v:=.agg #[.int .u64 a,.int .u64 b]) (by simp [results,results124,go_sem]) rfl ⟨rfl,((Gw.refl w).alloc _ _).drew⟩
  ·have h1:((d:Int) == 0)=false:=by simp;omega
   have e3:(c:Int)%(d:Int)=((c%d:Nat):Int):=(Int.natCast_emod _ _).symm;have ak:c%d<d:=Nat.mod_lt _ (by omega)
   go_wp2_with fail;go_roundg (c%d)
   case measure=>omega
   case rel =>
    refine ⟨d,c%d,rfl,?_,by omega,by omega,Nat.le_refl _,?_,rfl⟩
    ·first | rfl | simp
    ·show Nat.gcd d (c%d)=G
     rw [<-Da.o,Nat.gcd_comm c d,Nat.gcd_rec d c,Nat.gcd_comm]
theorem zf (num den:Int) (n0:0<=num) (hn:num<18446744073709551616) (d0:0<den) (hd:den<18446744073709551616) (w:World) :
  Calls prog 124 #[.int .u64 num,.int .u64 den] w fun e w'=>(∃ c d g,e=.returned (.agg #[.int .u64 c,.int .u64 d])/\tu num den c d g)/\Gw w w':=by
 obtain ⟨a,rfl⟩:∃ a:Nat,num=a:=⟨num.toNat,by omega⟩
 obtain ⟨b,rfl⟩:∃ b:Nat,den=b:=⟨den.toNat,by omega⟩
 refine (ZM a b (by omega) (by omega) (by omega) w).mono ?_
 rintro e w' ⟨rfl,g⟩;exact ⟨⟨_,_,_,rfl,ZL a b (by omega)⟩,g⟩
def Bx (w:World) (b:Nat) (t:TypeId) (u v:Value):Prop:=w.heap[b]?=some (.cells #[u,v] t (0,0))
theorem Bx.lt {w:World} {b:Nat} {t:TypeId} {u v:Value} (h:Bx w b t u v):b<w.heap.size:=(Array.getElem?_eq_some_iff.1 h).1
theorem Bx.c0 {w:World} {b:Nat} {t:TypeId} {u v:Value} (h:Bx w b t u v):w.cell? ⟨b,0,none⟩=some u:=by unfold Bx at h;simp [World.cell?,h]
theorem Bx.c1 {w:World} {b:Nat} {t:TypeId} {u v:Value} (h:Bx w b t u v):w.cell? ⟨b,1,none⟩=some v:=by unfold Bx at h;simp [World.cell?,h]
theorem Bx.fz {w:World} {b:Nat} {t:TypeId} {u v:Value} (h:Bx w b t u v) (o:Nat):w.frozen? ⟨b,o,none⟩=false:=by unfold Bx at h;simp [World.frozen?,h]
theorem Bx.gw {w w':World} {b:Nat} {t:TypeId} {u v:Value} (h:Bx w b t u v) (g:Gw w w'):Bx w' b t u v:=(g.below.block b h.lt).trans h
theorem Bx.new (w:World) (t:TypeId) (u v:Value):Bx (w.alloc (.cells #[u,v] t)) w.heap.size t u v:=heap_alloc_new w _
theorem Bx.set {w:World} {b:Nat} {t:TypeId} {u v:Value} (h:Bx w b t u v) (u' v':Value):Bx ((w.setCell ⟨b,0,none⟩ u').setCell ⟨b,1,none⟩ v') b t u' v':=by
 unfold Bx at h ⊢;simp [World.setCell,Array.getElem?_modify,h]
theorem Bx.far {w:World} {b:Nat} {t:TypeId} {u v:Value} (h:Bx w b t u v) {q o:Nat} (x:Value) (hq:b≠q):Bx (w.setCell ⟨q,o,none⟩ x) b t u v:=(Go.Deep.blk_setCell_other _ _ _ _ hq).trans h
theorem Bx.alloc {w:World} {b:Nat} {t:TypeId} {u v:Value} (h:Bx w b t u v) (o:Obj):Bx (w.alloc o) b t u v:=(heap_alloc_old w o h.lt).trans h
theorem Bx.at {w:World} {b b':Nat} {t:TypeId} {u v:Value} (h:Bx w b t u v) (e:b=b'):Bx w b' t u v:=e▸h
structure RF (w:World) (p:Nat) (v:Value) (e:Int) (n:Nat) (f:Nat->Int) (a b c d:Int):Prop where
 blk:w.heap[p]?=some (.cells #[.int .i64 (e+1),v,.int .u64 a,.int .u64 b,.int .u64 c,.int .u64 d] 191 (0,0))
 own:w.ownsRow 0 34 1 v n ((List.range n).map fun i=>Value.int .u64 (f i))
 ne:∀ q,v.ownBlock=some q->q≠p
 up:Up f n
 bd:∀ i,i<n->0<=f i/\f i<18446744073709551616
 low:bG e f (ay n) a b
 top:de e f (ay n) c d
 fit:aQ e f (ay n)
 e1:1<=e/\e<=63
 wd:(a<18446744073709551616/\b<18446744073709551616)/\(0<=c/\c<18446744073709551616)/\(0<=d/\d<18446744073709551616)
theorem RF.lt {w:World} {p:Nat} {v:Value} {e:Int} {n:Nat} {f:Nat->Int} {a b c d:Int} (h:RF w p v e n f a b c d):p<w.heap.size:=(Array.getElem?_eq_some_iff.1 h.blk).1
theorem RF.cells {w:World} {p:Nat} {v:Value} {e:Int} {n:Nat} {f:Nat->Int} {a b c d:Int} (h:RF w p v e n f a b c d) :
  w.cell? ⟨p,0,none⟩=some (.int .i64 (e+1))/\w.cell? ⟨p,1,none⟩=some v/\w.cell? ⟨p,2,none⟩=some (.int .u64 a)/\w.cell? ⟨p,3,none⟩=some (.int .u64 b)/\w.cell? ⟨p,4,none⟩=some (.int .u64 c)/\w.cell? ⟨p,5,none⟩=some (.int .u64 d):=by
 have:=h.blk
 refine ⟨?_,?_,?_,?_,?_,?_⟩<;>simp [World.cell?,this]
def dI (p:Nat) (v:Value) (q:Nat):Prop:=q=p\/v.ownBlock=some q
theorem RF.in {w:World} {p:Nat} {v:Value} {e:Int} {n:Nat} {f:Nat->Int} {a b c d:Int} (h:RF w p v e n f a b c d) (q:Nat) (hq:dI p v q):q<w.heap.size:=by
 rcases hq with rfl | hq
 ·exact h.lt
 ·exact (h.own.lt q hq).2
theorem RF.keep {w w':World} {p:Nat} {v:Value} {e:Int} {n:Nat} {f:Nat->Int} {a b c d:Int} (h:RF w p v e n f a b c d) (k:∀ q,dI p v q->w'.heap[q]?=w.heap[q]?):RF w' p v e n f a b c d:=by
 refine ⟨(k p (.inl rfl)).trans h.blk,⟨h.own.1,?_⟩,h.ne,h.up,h.bd,h.low,h.top,h.fit,h.e1,h.wd⟩;rcases h.own.2 with q | ⟨g,cap,cur,rfl,hb,hh,r⟩
 ·exact .inl q
 ·exact .inr ⟨g,cap,cur,rfl,hb,(k g (.inr rfl)).trans hh,r⟩
theorem RF.gw {w w':World} {p:Nat} {v:Value} {e:Int} {n:Nat} {f:Nat->Int} {a b c d:Int} (h:RF w p v e n f a b c d) (g:Gw w w'):RF w' p v e n f a b c d :=
 h.keep fun q hq=>g.below.block q (h.in q hq)
theorem RF.ks {w:World} {p:Nat} {v:Value} {e:Int} {n:Nat} {f:Nat->Int} {a b c d:Int} (h:RF w p v e n f a b c d):∃ ao cap,v=.slice ao n cap/\KS w ao n f:=by
 have ho:=h.own;rcases h.own.2 with ⟨rfl,rfl⟩ | ⟨g,cap,cur,rfl,_⟩
 ·exact ⟨none,0,rfl,⟨fun q=>by omega,h.bd⟩⟩
 ·exact ⟨_,cap,rfl,⟨fun q=>⟨g,0,rfl,(ho.lt g rfl).2,fun i hi=>by rw [Nat.zero_add,ho.cellAt i (by omega)];simp [hi]⟩,h.bd⟩⟩
theorem ZO (eps:Int) (h:¬ (2<=eps/\eps<=64)) (w:World) :
  Calls prog 105 #[.int .i64 eps] w fun e w'=>e=.returned (.tuple #[.pointer none,.int .i64 1])/\Gw w w':=by
 by_cases h1:eps<2
 ·go_enter func105,ntmps105
  go_wp2_with fail;go_ret2
  exact ⟨rfl,Gw.refl w⟩
 ·have h2:64<eps:=by omega
  go_enter func105,ntmps105;go_wp2_with fail;go_ret2;exact ⟨rfl,Gw.refl w⟩
theorem LC (eps:Int) (h1:2<=eps) (h2:eps<=64) (w:World) :
  Calls prog 105 #[.int .i64 eps] w fun e w'=>(∃ p,e=.returned (.tuple #[.pointer (some ⟨p,0,none⟩),.int .i64 0])/\w.heap.size<=p/\RF w' p (.slice none 0 0) (eps-1) 0 (fun _=>0) 0 1 1 0)/\Gw w w':=by
 have h3:¬ eps<2:=by omega
 have h4:¬ 64<eps:=by omega
 go_enter func105,ntmps105;go_wp2_with fail;go_ret2;refine ⟨⟨w.heap.size,rfl,Nat.le_refl _,⟨?_,World.ownsRow_nil _ _ _ _,(fun q hq=>by cases hq),(fun j hj=>by omega),(fun i hi=>by omega),Xe _ _ (by decide),Xf _ _ (by decide),(fun i j i' j' s=>by have:=s.2;omega),by omega,by omega⟩⟩,(Gw.refl w).alloc _ _⟩
 rw [heap_alloc_new,show eps-1+1=eps by omega]
theorem ZP {w:World} {p:Nat} {v:Value} {e:Int} {n:Nat} {f:Nat->Int} {a b c d:Int} (h:RF w p v e n f a b c d) :
  Calls prog 126 #[.pointer (some ⟨p,0,none⟩)] w fun e w'=>e=.returned (.agg #[.int .u64 a,.int .u64 b])/\Gw w w':=by
 obtain ⟨_,_,c2,c3,_⟩:=h.cells;have hl:=h.lt;clear h;go_enter func126,ntmps126;go_wp2_with fail;refine bodyPost_ret (v:=.agg #[.int .u64 a,.int .u64 b]) (by simp [results,results126,go_sem]) rfl ⟨rfl,(Gw.refl w).alloc _ _⟩
end Go.Proofs.YtklkpldicbkjeaaGreat
