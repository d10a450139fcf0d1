/- A Fit in memory: New, Count, Least, Most; what Add leaves. Add: a key that is not above the last; the first key. Add: one key more. -/
import Derived.Test.YtklkpldicbkjeaaGreatVCNarrow
set_option linter.unusedVariables false
set_option maxHeartbeats 16000000
set_option maxRecDepth 10000
open Go.Proofs.Tryz
namespace Go.Proofs.YtklkpldicbkjeaaGreat
open Go.RowKit
theorem di.congr {X X' g:Nat->Int} {n m:Nat} {c:Nat->Nat} (h:di X g n m c) (e:∀ i,i<n->X i=X' i):di X' g n m c:=by
 refine ⟨h.pos,h.first,h.last,h.up,fun i j hi hj=>?_⟩
 have:=h.abv i j hi hj
 rw [e j hj,e (c i) (h.bd (by omega)),e (c (i+1)) (h.bd hi)] at this
 exact this
structure FT (w:World) (p:Nat) (v0 v1:Value) (e:Int) (n:Nat) (f:Nat->Int) (lr lf mr mf:Int) (m0 m1:Nat) (c0 c1:Nat->Nat):Prop where
 blk:bL w p (dc e n lr lf mr mf v0 v1) 211
 own0:w.ownsRow 0 233 2 v0 m0 (bJ f c0 (-e) m0)
 own1:w.ownsRow 0 233 2 v1 m1 (bJ f c1 e m1)
 ne0:∀ q,v0.ownBlock=some q->q≠p
 ne1:∀ q,v1.ownBlock=some q->q≠p
 ne:∀ q,v0.ownBlock=some q->v1.ownBlock=some q->False
 z:n=0->v0=.slice none 0 0/\v1=.slice none 0 0
 ch0:0<n->di f (fun j=>-1*(j:Int)) n m0 c0
 ch1:0<n->di f (fun j=>1*(j:Int)) n m1 c1
 up:Up f n
 bd:∀ i,i<n->0<=f i/\f i<18446744073709551616
 low:fA e f (ay n) lr lf
 top:fB e f (ay n) mr mf
 fit:aQ e f (ay n)
 e1:1<=e/\e<=63
 sb:SB lr lf mr mf
def iM (p:Nat) (v0 v1:Value) (q:Nat):Prop:=q=p\/v0.ownBlock=some q\/v1.ownBlock=some q
def dN (w:World) (p:Nat) (S:Nat->Prop) (e:Int) (n:Nat) (f:Nat->Int):Prop :=
 ∃ v0 v1 lr lf mr mf m0 m1 c0 c1,FT w p v0 v1 e n f lr lf mr mf m0 m1 c0 c1/\∀ q,S q↔iM p v0 v1 q
theorem U5 {w:World} {base e size n:Nat} {xs:List Value} (h:w.ownsRow base e size (.slice none 0 0) n xs):n=0:=by
 rcases h.2 with ⟨_,q⟩ | ⟨g,cap,cur,ev,_⟩
 ·exact q
 ·cases ev
theorem dN.keep {w w':World} {p:Nat} {S:Nat->Prop} {e:Int} {n:Nat} {f:Nat->Int} (h:dN w p S e n f) (k:∀ q,S q->w'.heap[q]?=w.heap[q]?):dN w' p S e n f:=by
 obtain ⟨v0,v1,lr,lf,mr,mf,m0,m1,c0,c1,F,hS⟩:=h;exact ⟨v0,v1,lr,lf,mr,mf,m0,m1,c0,c1,{ F with blk:=(k p ((hS p).2 (.inl rfl))).trans F.blk,own0:=jY F.own0 fun q hq=>k q ((hS q).2 (.inr (.inl hq))),own1:=jY F.own1 fun q hq=>k q ((hS q).2 (.inr (.inr hq))) },hS⟩
theorem dN.lt {w:World} {p:Nat} {S:Nat->Prop} {e:Int} {n:Nat} {f:Nat->Int} (h:dN w p S e n f):∀ q,S q->q<w.heap.size:=by
 obtain ⟨v0,v1,lr,lf,mr,mf,m0,m1,c0,c1,F,hS⟩:=h;intro q hq;rcases (hS q).1 hq with rfl | r | r
 ·exact F.blk.lt
 ·exact (F.own0.lt q r).2
 ·exact (F.own1.lt q r).2
theorem dN.ext {w:World} {p:Nat} {S:Nat->Prop} {e:Int} {n:Nat} {f g:Nat->Int} (h:dN w p S e n f) (k:∀ i,i<n->f i=g i):dN w p S e n g:=by
 obtain ⟨v0,v1,lr,lf,mr,mf,m0,m1,c0,c1,F,hS⟩:=h;have p0:bJ f c0 (-e) m0=bJ g c0 (-e) m0:=by
  by_cases hn:n=0
  ·have:=F.own0
   rw [(F.z hn).1] at this;have:=U5 this;subst this;rfl
  ·exact Iy _ fun i hi=>⟨k _ ((F.ch0 (by omega)).bd hi),rfl⟩
 have p1:bJ f c1 e m1=bJ g c1 e m1:=by
  by_cases hn:n=0
  ·have:=F.own1
   rw [(F.z hn).2] at this;have:=U5 this;subst this;rfl
  ·exact Iy _ fun i hi=>⟨k _ ((F.ch1 (by omega)).bd hi),rfl⟩
 have I8:∀ i j,ay n i j->f j-f i=g j-g i:=fun i j s=>by rw [k j s.2,k i (by have:=s.1;have:=s.2;omega)]
 exact ⟨v0,v1,lr,lf,mr,mf,m0,m1,c0,c1,⟨F.blk,by rw [<-p0];exact F.own0,by rw [<-p1];exact F.own1,F.ne0,F.ne1,F.ne,F.z,fun hn=>(F.ch0 hn).congr k,fun hn=>(F.ch1 hn).congr k,
  fun j hj=>by rw [<-k j (by omega),<-k (j+1) hj];exact F.up j hj,fun i hi=>by rw [<-k i hi];exact F.bd i hi,F.low.congr (fun _ _=>Iff.rfl) I8,F.top.congr (fun _ _=>Iff.rfl) I8,F.fit.congr (fun _ _ s=>s) I8,F.e1,F.sb⟩,hS⟩
theorem dN.facts {w:World} {p:Nat} {S:Nat->Prop} {e:Int} {n:Nat} {f:Nat->Int} (h:dN w p S e n f):Up f n/\(∀ i,i<n->0<=f i/\f i<18446744073709551616)/\aQ e f (ay n)/\1<=e/\e<=63:=by
 obtain ⟨v0,v1,lr,lf,mr,mf,m0,m1,c0,c1,F,hS⟩:=h;exact ⟨F.up,F.bd,F.fit,F.e1.1,F.e1.2⟩
theorem adO (eps:Int) (h:¬ (2<=eps/\eps<=64)) (w:World):Calls prog 115 #[.int .i64 eps] w fun ex w'=>ex=.returned (.tuple #[.pointer none,.int .i64 1])/\Gw w w':=by
 have alt:eps<2\/(¬ eps<2/\64<eps):=by omega
 clear h;rcases alt with q | ⟨q,q'⟩
 ·go_enter func115,ntmps115
  go_wp2_with fail;go_ret2
  exact ⟨rfl,Gw.refl w⟩
 ·go_enter func115,ntmps115
  go_wp2_with fail;go_ret2
  exact ⟨rfl,Gw.refl w⟩
theorem adP (eps:Int) (h1:2<=eps) (h2:eps<=64) (w:World):Calls prog 115 #[.int .i64 eps] w fun ex w'=>(∃ p S,ex=.returned (.tuple #[.pointer (some ⟨p,0,none⟩),.int .i64 0])/\(∀ q,S q->w.heap.size<=q)/\dN w' p S (eps-1) 0 (fun _=>0))/\Gw w w':=by
 have z1:¬ eps<2:=by omega
 have z2:¬ 64<eps:=by omega
 have we:IntKind.i64.wrap (eps-1)=eps-1:=by rw [IntKind.wrap_i64];omega
 have aJ:ag (dN (w.alloc (.cells (dc (eps-1) 0 0 1 1 0 (.slice none 0 0) (.slice none 0 0)) 211)) w.heap.size (iM w.heap.size (.slice none 0 0) (.slice none 0 0)) (eps-1) 0 (fun _=>0)):=by
  refine ⟨.slice none 0 0,.slice none 0 0,0,1,1,0,0,0,fun _=>0,fun _=>0,⟨heap_alloc_new w _,World.ownsRow_nil _ _ _ _,World.ownsRow_nil _ _ _ _,(fun q hq=>by cases hq),(fun q hq=>by cases hq),(fun q hq=>by cases hq),fun _=>⟨rfl,rfl⟩,(fun h=>by omega),(fun h=>by omega),(fun j hj=>by omega),(fun i hi=>by omega),?_,?_,?_,by omega,?_⟩,fun q=>Iff.rfl⟩
  ·exact ⟨by omega,by omega,fun i j s=>by have:=s.1;have:=s.2;omega,.inl rfl⟩
  ·exact .inl ⟨rfl,rfl,fun i j s=>by have:=s.1;have:=s.2;omega⟩
  ·intro i j i' j' s;have:=s.1;have:=s.2;omega
  ·exact ⟨by decide,by decide,by decide,by decide,by decide,by decide,by decide,by decide⟩
 have SS:ag (∀ q,iM w.heap.size (.slice none 0 0) (.slice none 0 0) q->w.heap.size<=q):=by
  intro q hq;rcases hq with rfl | r | r
  ·exact Nat.le_refl _
  ·cases r
  ·cases r
 go_enter func115,ntmps115;go_wp2_with fail;go_ret2
 first
  | exact ⟨⟨w.heap.size,_,rfl,SS.o,aJ.o⟩,(Gw.refl w).alloc _ _⟩
  | exact ⟨⟨w.heap.size,rfl,_,SS.o,aJ.o⟩,(Gw.refl w).alloc _ _⟩
theorem U6 {c g a:Int} (g0:0<g) (e:c*g=a) (c0:0<=c):c<=a:=by
 have:c*1<=c*g:=Int.mul_le_mul_of_nonneg_left (by omega) c0
 omega
theorem adQ {w:World} {p:Nat} {S:Nat->Prop} {e:Int} {n:Nat} {f:Nat->Int} (h:dN w p S e n f) (hn:n<=3000001):Calls prog 139 #[.pointer (some ⟨p,0,none⟩)] w fun ex w'=>(∃ a b,ex=.returned (.agg #[.int .u64 a,.int .u64 b])/\bG e f (ay n) a b/\a<18446744073709551616/\b<18446744073709551616)/\Gw w w':=by
 obtain ⟨v0,v1,lr,lf,mr,mf,m0,m1,c0,c1,F,hS⟩:=h;have k2:=F.blk.cell (o:=2) (v:=.int .i64 lr) rfl;have k3:=F.blk.cell (o:=3) (v:=.int .u64 lf) rfl;have lp:=F.blk.lt;have SL:ag (∀ W,Calls prog 157 #[.agg #[.int .i64 lr,.int .u64 lf]] W fun ex w'=>(∃ a b,ex=.returned (.agg #[.int .u64 a,.int .u64 b])/\bG e f (ay n) a b/\a<18446744073709551616/\b<18446744073709551616)/\Gw W w'):=by
  intro W;have b1:=F.low.b1;have s1:=F.sb.l1;have s3:=F.sb.l3;refine (adB lr lf F.low.a0 (by omega) (by omega) s3 W).mono ?_
  rintro ex w' ⟨⟨c,d,g,rfl,g0,ec,ed,hg⟩,G⟩;have L:=F.low.red g0 ec ed hg;have q1:=U6 g0 ec L.a0;have q2:=U6 g0 ed (by have:=L.b1;omega)
  exact ⟨⟨c,d,rfl,L,by omega,by omega⟩,G⟩
 clear F hS;go_enter func139,ntmps139;go_wp2_with fail;refine (SL.o _).mono ?_;rintro ex w1 ⟨⟨a,b,rfl,hL⟩,g1⟩;have X:ag (Bx w1 w.heap.size 189 (.int .u64 0) (.int .u64 0)):=(Bx.new w _ _ _).gw g1;have HL:ag _:=hL;have G1:ag (Gw w w1):=((Gw.refl w).alloc _ _).trans g1;have x0:=X.o.c0;have x1:=X.o.c1;have x2:=X.o.fz 0;have x3:=X.o.fz 1;clear g1 hL;go_wp2_with fail;have Y:=X.o.set (.int .u64 a) (.int .u64 b);have y0:=Y.c0;have y1:=Y.c1;clear x0 x1 x2 x3;refine bodyPost_ret (v:=.agg #[.int .u64 a,.int .u64 b]) (by simp [results,results139,go_sem,y0,y1]) rfl ⟨⟨a,b,rfl,HL.o⟩,?_⟩
 exact (G1.o.setCell (by simp) _).setCell (by simp) _
theorem U7 {w wa wb wd:World} {p:Nat} {v0 v1 gQ qd:Value} {e:Int} {n:Nat} {f:Nat->Int} {x lr lf mr mf:Int} {jB ru:Nat} {ox iR:Nat->Nat}
  (o0:∀ q,v0.ownBlock=some q->q<w.heap.size/\q≠p) (o1:∀ q,v1.ownBlock=some q->q<w.heap.size/\q≠p) (ne:∀ q,v0.ownBlock=some q->v1.ownBlock=some q->False) (lp:p<w.heap.size)
  (Ga:Gs (fun q=>q=p) w wa)
  (Gb:Gs (fun q=>q=p\/v0.ownBlock=some q) wa wb) (O0:wb.ownsRow 0 233 2 gQ jB (bJ (aC f n x) ox (-e) jB)) (Q0:∀ q,gQ.ownBlock=some q->(v0.ownBlock=some q\/wa.heap.size<=q)/\q≠p) (C0:di (aC f n x) (fun j=>-1*(j:Int)) (n+1) jB ox)
  (Gd:Gs (fun q=>q=p\/v1.ownBlock=some q) wb wd) (O1:wd.ownsRow 0 233 2 qd ru (bJ (aC f n x) iR e ru)) (Q1:∀ q,qd.ownBlock=some q->(v1.ownBlock=some q\/wb.heap.size<=q)/\q≠p) (C1:di (aC f n x) (fun j=>1*(j:Int)) (n+1) ru iR)
  (hB:bL wd p (((dc e n lr lf mr mf v0 v1).setIfInBounds (6+1) gQ).setIfInBounds (8+1) qd) 211)
  (up:Up (aC f n x) (n+1)) (bd:∀ i,i<n+1->0<=aC f n x i/\aC f n x i<18446744073709551616) (low:fA e (aC f n x) (ay (n+1)) lr lf) (top:fB e (aC f n x) (ay (n+1)) mr mf) (fit:aQ e (aC f n x) (ay (n+1))) (e1:1<=e/\e<=63) (sb:SB lr lf mr mf) :
  (∃ S',dN (wd.setCell ⟨p,1,none⟩ (.int .i64 ((n:Int)+1))) p S' e (n+1) (aC f n x)/\∀ q,S' q->iM p v0 v1 q\/w.heap.size<=q)/\Gs (iM p v0 v1) w (wd.setCell ⟨p,1,none⟩ (.int .i64 ((n:Int)+1))):=by
 have sa:=Ga.size;have sb':=Gb.size;have x0:∀ q,gQ.ownBlock=some q->q<wb.heap.size/\q≠p/\v1.ownBlock≠some q:=by
  intro q hq;refine ⟨(O0.lt q hq).2,(Q0 q hq).2,fun r=>?_⟩
  rcases (Q0 q hq).1 with t | t
  ·exact ne q t r
  ·have:=(o1 q r).1;omega
 have blk:bL (wd.setCell ⟨p,1,none⟩ (.int .i64 ((n:Int)+1))) p (dc e (n+1) lr lf mr mf gQ qd) 211:=hB.set 1 _;refine ⟨⟨iM p gQ qd,⟨gQ,qd,lr,lf,mr,mf,jB,ru,ox,iR,⟨blk,?_,?_,fun q hq=>(x0 q hq).2.1,fun q hq=>(Q1 q hq).2,?_,fun h=>by omega,fun _=>C0,fun _=>C1,up,bd,low,top,fit,e1,sb⟩,fun q=>Iff.rfl⟩,?_⟩,?_⟩
 ·refine jY O0 fun q hq=>?_
  obtain ⟨h1,h2,h3⟩:=x0 q hq;rw [Go.Deep.blk_setCell_other _ _ _ _ h2];exact Gd.block q h1 (fun r=>by rcases r with r | r;exact h2 r;exact h3 r)
 ·refine jY O1 fun q hq=>?_
  rw [Go.Deep.blk_setCell_other _ _ _ _ (Q1 q hq).2]
 ·intro q h0 h1
  obtain ⟨t1,t2,t3⟩:=x0 q h0;rcases (Q1 q h1).1 with r | r
  ·exact t3 r
  ·omega
 ·intro q hq
  rcases hq with rfl | r | r
  ·exact .inl (.inl rfl)
  ·rcases (Q0 q r).1 with t | t
   ·exact .inl (.inr (.inl t))
   ·exact .inr (by omega)
  ·rcases (Q1 q r).1 with t | t
   ·exact .inl (.inr (.inr t))
   ·exact .inr (by omega)
 ·refine Gs.set ?_ (.inl rfl) _ _
  refine ⟨Gd.os.trans (Gb.os.trans Ga.os),Gd.tape.trans (Gb.tape.trans Ga.tape),Gd.output.trans (Gb.output.trans Ga.output),by have:=Gd.size;omega,fun q hq hs=>?_⟩
  have n1:q≠p:=fun r=>hs (.inl r)
  have n2:¬ (v0.ownBlock=some q):=fun r=>hs (.inr (.inl r))
  have n3:¬ (v1.ownBlock=some q):=fun r=>hs (.inr (.inr r))
  rw [Gd.block q (by omega) (fun r=>by rcases r with r | r;exact n1 r;exact n3 r),Gb.block q (by omega) (fun r=>by rcases r with r | r;exact n1 r;exact n2 r),Ga.block q hq n1]
theorem Laid.undrew {w w':World} {p o:Nat} {B:Array Value} {T:TypeId} {v:Value} {f:Nat->Int} {n:Nat} {x s h:Int} (k:Laid w.drew w' p o B T v f n x s h):Laid w w' p o B T v f n x s h :=
 ⟨k.1,k.2.os,k.2.tape,k.2.output,k.2.size,k.2.block⟩
theorem Bx.gs' {S:Nat->Prop} {w w':World} {b:Nat} {t:TypeId} {u v:Value} (h:Bx w b t u v) (g:Gs S w w') (n:¬ S b):Bx w' b t u v:=(g.block b h.lt n).trans h
theorem FT.chains {w:World} {p:Nat} {v0 v1:Value} {e:Int} {n:Nat} {f:Nat->Int} {lr lf mr mf:Int} {m0 m1:Nat} {c0 c1:Nat->Nat} (F:FT w p v0 v1 e n f lr lf mr mf m0 m1 c0 c1) (hn:0<n) :
  ∃ g0 bH g1 cD,v0=.slice (some ⟨g0,0,none⟩) m0 bH/\v1=.slice (some ⟨g1,0,none⟩) m1 cD/\CH w p 6 g0 m0 bH (-1) (-e) f n c0/\CH w p 8 g1 m1 cD 1 e f n c1:=by
 obtain ⟨g0,bH,e0,_,_⟩:=F.own0.form (F.ch0 hn).pos;obtain ⟨g1,cD,e1,_,_⟩:=F.own1.form (F.ch1 hn).pos;subst e0;subst e1;exact ⟨g0,bH,g1,cD,rfl,rfl,⟨F.blk.lt,F.blk.cell rfl,F.blk.cell rfl,Iz F.own0,F.ch0 hn⟩,⟨F.blk.lt,F.blk.cell rfl,F.blk.cell rfl,Iz F.own1,F.ch1 hn⟩⟩
theorem adR {w:World} {p:Nat} {v0 v1:Value} {e:Int} {n:Nat} {f:Nat->Int} {lr lf mr mf:Int} {m0 m1:Nat} {c0 c1:Nat->Nat} (F:FT w p v0 v1 e n f lr lf mr mf m0 m1 c0 c1) (x:Int) (x0:0<=x) (x1:x<18446744073709551616) (ID:n<=3000000) (hn:0<n) (hx:x<=f (n-1)) :
  Calls prog 136 #[.pointer (some ⟨p,0,none⟩),.int .u64 x] w fun ex w'=>ex=.returned (.tuple #[.bool false,.int .i64 40])/\Gw w w':=by
 have kb:KB f n:=⟨F.up,F.bd,by omega⟩
 obtain ⟨g0,bH,g1,cD,_,_,k0,k1⟩:=F.chains hn;have LA:ag (Calls prog 154 #[.pointer (some ⟨p,6,none⟩)] w fun e' w'=>e'=.returned (.agg #[.int .u64 (f (n-1)),.int .i64 (((n-1:Nat):Int)+-e)])/\Gw w w'):=UA kb w k0
 have iR:=F.blk.cell (o:=1) (v:=.int .i64 n) rfl;have hni:(0:Int)<n:=by omega
 generalize f (n-1)=fl at LA hx;generalize ((n-1:Nat):Int)+-e=yl at LA;have uq:∀ W:World,(Instr.field 233 (.agg #[.int .u64 fl,.int .i64 yl]) 0).run prog W=.ok (.int .u64 fl) W:=fun _=>by kernel_rfl
 clear F k0 k1 kb;go_enter func136,ntmps136;go_wp2_with fail;refine LA.o.mono ?_;rintro ex w1 ⟨rfl,g1⟩;have G1:ag _:=g1;clear g1;go_wp2_with fail;go_ret2;exact ⟨rfl,G1.o⟩
theorem adS {w:World} {p:Nat} {v0 v1:Value} {e:Int} {f:Nat->Int} {lr lf mr mf:Int} {m0 m1:Nat} {c0 c1:Nat->Nat} (F:FT w p v0 v1 e 0 f lr lf mr mf m0 m1 c0 c1) (x:Int) (x0:0<=x) (x1:x<18446744073709551616) :
  Calls prog 136 #[.pointer (some ⟨p,0,none⟩),.int .u64 x] w fun ex w'=>ex=.returned (.tuple #[.bool true,.int .i64 0])/\(∃ S',dN w' p S' e 1 (aC f 0 x)/\∀ q,S' q->iM p v0 v1 q\/w.heap.size<=q)/\Gs (iM p v0 v1) w w':=by
 obtain ⟨z0,z1⟩:=F.z rfl;subst z0;subst z1;obtain ⟨e1,e2⟩:=F.e1;have HB:ag (bL w p (dc e 0 lr lf mr mf (.slice none 0 0) (.slice none 0 0)) 211):=F.blk;have HF:ag (fA e (aC f 0 x) (ay (0+1)) lr lf/\fB e (aC f 0 x) (ay (0+1)) mr mf/\aQ e (aC f 0 x) (ay (0+1))/\SB lr lf mr mf):=by
  refine ⟨F.low.congr (fun i j=>?_) (fun i j s=>by have:=s.1;have:=s.2;omega),F.top.congr (fun i j=>?_) (fun i j s=>by have:=s.1;have:=s.2;omega),fun i j i' j' s=>by have:=s.1;have:=s.2;omega,F.sb⟩
  ·unfold ay;omega
  ·unfold ay;omega
 have iR:=F.blk.cell (o:=1) (v:=.int .i64 0) rfl;have ox:=F.blk.cell (o:=0) (v:=.int .i64 e) rfl;have lp:=F.blk.lt;have I':IntKind.i64.wrap (0-e)=-e:=by rw [IntKind.wrap_i64];omega
 have Ja:IntKind.i64.wrap (-e)=-e:=by rw [IntKind.wrap_i64];omega
 clear F;go_enter func136,ntmps136;go_wp2_with fail;go_cut [7,8] (fun s7 s8 wc=>∃ (b7 b8:Nat),s7=.pointer (some ⟨b7,0,none⟩)/\s8=.pointer (some ⟨b8,0,none⟩)/\ag (Bx wc b7 233 (.int .u64 x) (.int .i64 (-e)))/\ag (Bx wc b8 233 (.int .u64 x) (.int .i64 (e)))/\ag (w.heap.size<=b7)/\ag (w.heap.size<=b8)/\ag (Gw w wc))
 case first =>
  go_region
  all_goals
   go_wp2_with fail;go_meet
  all_goals
   case rel =>
    first
     | exact ⟨w.heap.size,w.heap.size+1,rfl,rfl,(show ag _ from (Bx.new w _ _ _).alloc _),(show ag _ from (Bx.new _ _ _ _).at (by simp)),(show ag _ from Nat.le_refl _),(show ag _ from Nat.le_succ _),(show ag _ from (((Gw.refl w).alloc _ _).alloc _ _).drew)⟩
     | exact ⟨w.heap.size+1,w.heap.size,rfl,rfl,(show ag _ from (Bx.new _ _ _ _).at (by simp)),(show ag _ from (Bx.new w _ _ _).alloc _),(show ag _ from Nat.le_succ _),(show ag _ from Nat.le_refl _),(show ag _ from (((Gw.refl w).alloc _ _).alloc _ _).drew)⟩
 case rest =>
  obtain ⟨W1,eW⟩:∃ wx,wx=wc:=⟨_,rfl⟩;subst eW;obtain ⟨b7,b8,rfl,rfl,B7,B8,L7,L8,G1⟩:=hcut;have F1:ag (bL W1 p (dc e 0 lr lf mr mf (.slice none 0 0) (.slice none 0 0)) 211):=HB.o.gw G1.o;have LA:ag (∀ W,Gw W1 W->Calls prog 156 #[.pointer (some ⟨p,6,none⟩),.agg #[.int .u64 x,.int .i64 (-e)]] W fun ex w'=>ex=.returned (.tuple #[])/\Laid W w' p 6 (dc e 0 lr lf mr mf (.slice none 0 0) (.slice none 0 0)) 211 (.slice none 0 0) f 0 x (-1) (-e)):=fun W G=>UI (by omega) (by omega) x x0 x1 (F1.o.gw G) rfl
  have d0:=B7.o.c0;have d1:=B7.o.c1;have d2:=F1.o.cell (o:=1) (v:=.int .i64 0) rfl;clear iR ox I' Ja;go_wp2_with fail;go_cut [] (fun wc=>ag (Laid W1 wc p 6 (dc e 0 lr lf mr mf (.slice none 0 0) (.slice none 0 0)) 211 (.slice none 0 0) f 0 x (-1) (-e)))
  case first =>
   go_region_with (go_at_call 156;refine (LA.o _ ((Gw.refl _).drew)).mono ?_;rintro ex w8 ⟨rfl,hL⟩;have HL:ag (Laid W1 w8 p 6 (dc e 0 lr lf mr mf (.slice none 0 0) (.slice none 0 0)) 211 (.slice none 0 0) f 0 x (-1) (-e)):=hL.undrew;clear hL)
   all_goals
    go_wp2_with fail;go_meet
   all_goals
    case rel=>exact HL.o
  case rest =>
   obtain ⟨W2,eW⟩:∃ wx,wx=wc:=⟨_,rfl⟩;subst eW;obtain ⟨⟨gQ,jB,ox,H1,lT,H3,H4⟩,H5⟩:=hcut.o;have D1:ag (bL W2 p ((dc e 0 lr lf mr mf (.slice none 0 0) (.slice none 0 0)).setIfInBounds (6+1) gQ) 211):=H1;have D2:ag _:=lT;have D3:ag _:=H3;have D4:ag _:=H4;have D5:ag _:=H5;have Bf:ag (Bx W2 b8 233 (.int .u64 x) (.int .i64 e)):=B8.o.gs' H5 (fun r=>by rcases r with r | r;(have:=L8.o;omega);cases r)
   clear H1 lT H3 H4 H5 hcut LA d0 d1 d2;have LA:ag (∀ W,Gw W2 W->Calls prog 156 #[.pointer (some ⟨p,8,none⟩),.agg #[.int .u64 x,.int .i64 e]] W fun ex w'=>ex=.returned (.tuple #[])/\Laid W w' p 8 ((dc e 0 lr lf mr mf (.slice none 0 0) (.slice none 0 0)).setIfInBounds (6+1) gQ) 211 (.slice none 0 0) f 0 x 1 e):=fun W G=>UI (by omega) (by omega) x x0 x1 (D1.o.gw G) rfl
   have d0:=Bf.o.c0;have d1:=Bf.o.c1;go_wp2_with fail;go_cut [] (fun wc=>ag (Laid W2 wc p 8 ((dc e 0 lr lf mr mf (.slice none 0 0) (.slice none 0 0)).setIfInBounds (6+1) gQ) 211 (.slice none 0 0) f 0 x (1) (e)))
   case first =>
    go_region_with (go_at_call 156;refine (LA.o _ ((Gw.refl _).drew)).mono ?_;rintro ex w8 ⟨rfl,hL⟩;have HL:ag (Laid W2 w8 p 8 ((dc e 0 lr lf mr mf (.slice none 0 0) (.slice none 0 0)).setIfInBounds (6+1) gQ) 211 (.slice none 0 0) f 0 x (1) (e)):=hL.undrew;clear hL)
    all_goals
     go_wp2_with fail;go_meet
    all_goals
     case rel=>exact HL.o
   case rest =>
    obtain ⟨W3,eW⟩:∃ wx,wx=wc:=⟨_,rfl⟩;subst eW;obtain ⟨⟨qd,ru,iR,H1,lT,H3,H4⟩,H5⟩:=hcut.o;have aJ:ag ((∃ S',dN (W3.setCell ⟨p,1,none⟩ (.int .i64 1)) p S' e (0+1) (aC f 0 x)/\∀ q,S' q->iM p (.slice none 0 0) (.slice none 0 0) q\/w.heap.size<=q)/\Gs (iM p (.slice none 0 0) (.slice none 0 0)) w (W3.setCell ⟨p,1,none⟩ (.int .i64 1))):=by
     refine U7 (n:=0) (fun q hq=>by cases hq) (fun q hq=>by cases hq) (fun q hq=>by cases hq) lp (G1.o.gs _) D5.o D2.o D4.o D3.o H5 lT H4 H3 H1 (fun j hj=>by omega) (fun i hi=>?_) HF.o.1 HF.o.2.1 HF.o.2.2.1 ⟨e1,e2⟩ HF.o.2.2.2
     have:i=0:=by omega
     subst this;rw [dO];exact ⟨x0,x1⟩
    have q1:W3.cell? ⟨p,1,none⟩=some (.int .i64 0):=H1.cell rfl;have q2:=H1.fz 1;clear H1 lT H3 H4 H5 hcut D1 D2 D3 D4 D5 LA d0 d1;go_wp2_with fail;go_ret2;exact ⟨rfl,aJ.o.1,aJ.o.2⟩
theorem adT {w:World} {p:Nat} {v0 v1:Value} {e:Int} {n:Nat} {f:Nat->Int} {lr lf mr mf:Int} {m0 m1:Nat} {c0 c1:Nat->Nat} (F:FT w p v0 v1 e n f lr lf mr mf m0 m1 c0 c1) (x:Int) (x0:0<=x) (x1:x<18446744073709551616) (ID:n<=3000000) (hn:0<n) (hx:f (n-1)<x) :
  Calls prog 136 #[.pointer (some ⟨p,0,none⟩),.int .u64 x] w fun ex w'=>∃ ok:Bool,ex=.returned (.tuple #[.bool ok,.int .i64 0])/\(ok=true↔aQ e (aC f n x) (ay (n+1)))/\(ok=false->Gw w w')/\(ok=true->(∃ S',dN w' p S' e (n+1) (aC f n x)/\∀ q,S' q->iM p v0 v1 q\/w.heap.size<=q)/\Gs (iM p v0 v1) w w'):=by
 have kb:KB f n:=⟨F.up,F.bd,by omega⟩
 obtain ⟨e1,e2⟩:=F.e1;obtain ⟨g0,bH,g1,cD,ev0,ev1,k0,k1⟩:=F.chains hn;subst ev0;subst ev1;have Bg:ag (Calls prog 154 #[.pointer (some ⟨p,6,none⟩)] w fun e' w'=>e'=.returned (.agg #[.int .u64 (f (n-1)),.int .i64 (((n-1:Nat):Int)+-e)])/\Gw w w'):=UA kb w k0
 have NA:ag (∀ W,Gw w W->Calls prog 155 #[.pointer (some ⟨p,0,none⟩),.agg #[.int .u64 x,.int .i64 ((n:Int)-e)],.agg #[.int .u64 x,.int .i64 ((n:Int)+e)]] W fun ex w'=>∃ ok:Bool,ex=.returned (.bool ok)/\IC W w' p e n f x (.slice (some ⟨g0,0,none⟩) m0 bH) (.slice (some ⟨g1,0,none⟩) m1 cD) ok):=fun W G=>adN kb hn ID e1 e2 x hx x1 (F.blk.gw G) (k0.gw G) (k1.gw G) F.low F.top F.sb
 have jo:ag (FT w p (.slice (some ⟨g0,0,none⟩) m0 bH) (.slice (some ⟨g1,0,none⟩) m1 cD) e n f lr lf mr mf m0 m1 c0 c1):=F;have Bh:ag (KB f n):=kb;have iR:=F.blk.cell (o:=1) (v:=.int .i64 n) rfl;have lp:=F.blk.lt;have hni:(0:Int)<n:=by omega
 have I':IntKind.i64.wrap ((n:Int)-e)=(n:Int)-e:=by rw [IntKind.wrap_i64];omega
 have Ja:IntKind.i64.wrap ((n:Int)+e)=(n:Int)+e:=by rw [IntKind.wrap_i64];omega
 have HX:ag (f (n-1)<x):=hx;have gX:¬ x<=f (n-1):=by omega
 generalize f (n-1)=fl at Bg gX;generalize ((n-1:Nat):Int)+-e=yl at Bg;have uq:∀ W:World,(Instr.field 233 (.agg #[.int .u64 fl,.int .i64 yl]) 0).run prog W=.ok (.int .u64 fl) W:=fun _=>by kernel_rfl
 clear F k0 k1 kb hx;go_enter func136,ntmps136;go_wp2_with fail;refine Bg.o.mono ?_;rintro ex wz ⟨rfl,gz⟩;have GZ:ag _:=gz;have KO:=(GZ.o.cell p 1 lp).trans iR;have ox:=(GZ.o.cell p 0 lp).trans (jo.o.blk.cell (o:=0) (v:=.int .i64 e) rfl);have lpz:p<wz.heap.size:=Nat.lt_of_lt_of_le lp GZ.o.size;clear gz Bg;go_wp2_with fail;go_cut [7,8] (fun s7 s8 wc=>∃ (b7 b8:Nat),s7=.pointer (some ⟨b7,0,none⟩)/\s8=.pointer (some ⟨b8,0,none⟩)/\ag (Bx wc b7 233 (.int .u64 x) (.int .i64 ((n:Int)-e)))/\ag (Bx wc b8 233 (.int .u64 x) (.int .i64 ((n:Int)+e)))/\ag (wz.heap.size<=b7)/\ag (wz.heap.size<=b8)/\ag (Gw wz wc))
 case first =>
  go_region
  all_goals
   go_wp2_with fail;go_meet
  all_goals
   case rel =>
    first
     | exact ⟨wz.heap.size,wz.heap.size+1,rfl,rfl,(show ag _ from (Bx.new wz _ _ _).alloc _),(show ag _ from (Bx.new _ _ _ _).at (by simp)),(show ag _ from Nat.le_refl _),(show ag _ from Nat.le_succ _),(show ag _ from (((Gw.refl wz).alloc _ _).alloc _ _).drew)⟩
     | exact ⟨wz.heap.size+1,wz.heap.size,rfl,rfl,(show ag _ from (Bx.new _ _ _ _).at (by simp)),(show ag _ from (Bx.new wz _ _ _).alloc _),(show ag _ from Nat.le_succ _),(show ag _ from Nat.le_refl _),(show ag _ from (((Gw.refl wz).alloc _ _).alloc _ _).drew)⟩
 case rest =>
  obtain ⟨W1,eW⟩:∃ wx,wx=wc:=⟨_,rfl⟩;subst eW;obtain ⟨b7,b8,rfl,rfl,B7,B8,L7,L8,G1⟩:=hcut;have gM:ag (Gw w W1):=GZ.o.trans G1.o;have l7:w.heap.size<=b7:=Nat.le_trans GZ.o.size L7.o;have l8:w.heap.size<=b8:=Nat.le_trans GZ.o.size L8.o;have d0:=B7.o.c0;have d1:=B7.o.c1;have d2:=B8.o.c0;have d3:=B8.o.c1;have d4:=(gM.o.cell p 1 lp).trans iR;clear iR KO ox I' Ja gX lpz;go_wp2_with fail;refine (NA.o _ gM.o).mono ?_;rintro ex W2 ⟨ok,rfl,hN⟩;have HN:ag (IC W1 W2 p e n f x (.slice (some ⟨g0,0,none⟩) m0 bH) (.slice (some ⟨g1,0,none⟩) m1 cD) ok):=hN;clear hN NA d0 d1 d2 d3 d4;cases ok with
  | false =>
   go_wp2_with fail;go_ret2
   exact ⟨false,rfl,HN.o.1,fun _=>gM.o.trans (HN.o.2.1 rfl),fun q=>Bool.noConfusion q⟩
  | true =>
   have FI:ag _:=HN.o.1.1 rfl;obtain ⟨⟨mX,im,mY,mZ,hB,hL,hT,hS⟩,hG⟩:=HN.o.2.2 rfl;have wL:ag (bL W2 p (dc e n mX im mY mZ (.slice (some ⟨g0,0,none⟩) m0 bH) (.slice (some ⟨g1,0,none⟩) m1 cD)) 211):=hB;have SL:ag (fA e (aC f n x) (ay (n+1)) mX im/\fB e (aC f n x) (ay (n+1)) mY mZ/\SB mX im mY mZ):=⟨hL,hT,hS⟩;have GA:ag (Gs (fun q=>q=p) w W2):=⟨hG.os.trans gM.o.below.os,hG.tape.trans gM.o.below.tape,hG.output.trans gM.o.below.output,Nat.le_trans gM.o.size hG.size,fun q hq hs=>(hG.block q (Nat.lt_of_lt_of_le hq gM.o.size) hs).trans (gM.o.below.block q hq)⟩
   have Jb:ag (Bx W2 b7 233 (.int .u64 x) (.int .i64 ((n:Int)-e))):=B7.o.gs' hG (fun r=>by have:b7=p:=r;omega)
   have Bf:ag (Bx W2 b8 233 (.int .u64 x) (.int .i64 ((n:Int)+e))):=B8.o.gs' hG (fun r=>by have:b8=p:=r;omega)
   have OW:ag ((g0<w.heap.size/\g0≠p)/\(g1<w.heap.size/\g1≠p)/\g0≠g1):=⟨⟨(jo.o.own0.lt g0 rfl).2,jo.o.ne0 g0 rfl⟩,⟨(jo.o.own1.lt g1 rfl).2,jo.o.ne1 g1 rfl⟩,fun q=>jo.o.ne g0 rfl (by rw [q];rfl)⟩
   have U8:ag (W2.ownsRow 0 233 2 (.slice (some ⟨g0,0,none⟩) m0 bH) m0 (bJ f c0 (-e) m0)):=jY jo.o.own0 fun q hq=>GA.o.block q (jo.o.own0.lt q hq).2 (jo.o.ne0 q hq)
   have U9:ag (W2.ownsRow 0 233 2 (.slice (some ⟨g1,0,none⟩) m1 cD) m1 (bJ f c1 e m1)):=jY jo.o.own1 fun q hq=>GA.o.block q (jo.o.own1.lt q hq).2 (jo.o.ne1 q hq)
   have LA:ag (∀ W,Gw W2 W->Calls prog 156 #[.pointer (some ⟨p,6,none⟩),.agg #[.int .u64 x,.int .i64 ((n:Int)-e)]] W fun ex w'=>ex=.returned (.tuple #[])/\Laid W w' p 6 (dc e n mX im mY mZ (.slice (some ⟨g0,0,none⟩) m0 bH) (.slice (some ⟨g1,0,none⟩) m1 cD)) 211 (.slice (some ⟨g0,0,none⟩) m0 bH) f n x (-1) (-e)):=fun W G=>(by
    have:=UJ (o:=6) (s:=-1) (h:=-e) Bh.o hn (.inr rfl) (by omega) (by omega) x HX.o x1 (wL.o.gw G) rfl rfl (jY U8.o fun q hq=>G.below.block q (U8.o.lt q hq).2) OW.o.1.2 (jo.o.ch0 hn)
    rw [show (n:Int)+-e=(n:Int)-e by omega] at this
    exact this)
   have d0:=Jb.o.c0;have d1:=Jb.o.c1;clear HN hB hL hT hS hG B7 B8 Jb gM GZ G1;go_wp2_with fail;go_cut [] (fun wc=>ag (Laid W2 wc p 6 (dc e n mX im mY mZ (.slice (some ⟨g0,0,none⟩) m0 bH) (.slice (some ⟨g1,0,none⟩) m1 cD)) 211 (.slice (some ⟨g0,0,none⟩) m0 bH) f n x (-1) (-e)))
   case first =>
    go_region_with (go_at_call 156;refine (LA.o _ ((Gw.refl _).drew)).mono ?_;rintro ex w8 ⟨rfl,hL⟩;have HL:ag (Laid W2 w8 p 6 (dc e n mX im mY mZ (.slice (some ⟨g0,0,none⟩) m0 bH) (.slice (some ⟨g1,0,none⟩) m1 cD)) 211 (.slice (some ⟨g0,0,none⟩) m0 bH) f n x (-1) (-e)):=hL.undrew;clear hL)
    all_goals
     go_wp2_with fail;go_meet
    all_goals
     case rel=>exact HL.o
   case rest =>
    obtain ⟨W3,eW⟩:∃ wx,wx=wc:=⟨_,rfl⟩;subst eW;obtain ⟨⟨gQ,jB,ox,H1,lT,H3,H4⟩,H5⟩:=hcut.o;have D1:ag (bL W3 p ((dc e n mX im mY mZ (.slice (some ⟨g0,0,none⟩) m0 bH) (.slice (some ⟨g1,0,none⟩) m1 cD)).setIfInBounds (6+1) gQ) 211):=H1;have D2:ag _:=lT;have D3:ag _:=H3;have D4:ag _:=H4;have D5:ag _:=H5;have U':ag (Bx W3 b8 233 (.int .u64 x) (.int .i64 ((n:Int)+e))):=Bf.o.gs' H5 (fun r=>by
     rcases r with r | r
     ·have:b8=p:=r
      omega
     ·have r':some g0=some b8:=r
      have:=OW.o.1.1
      simp at r';omega)
    have Va:ag (W3.ownsRow 0 233 2 (.slice (some ⟨g1,0,none⟩) m1 cD) m1 (bJ f c1 e m1)):=jY U9.o fun q hq=>(by
     have Vb:=(U9.o.lt q hq).2;cases hq;exact H5.block _ Vb (fun r=>by
      rcases r with r | r
      ·exact OW.o.2.1.2 r
      ·cases r
       exact OW.o.2.2 rfl))
    clear H1 lT H3 H4 H5 hcut LA d0 d1;have LA:ag (∀ W,Gw W3 W->Calls prog 156 #[.pointer (some ⟨p,8,none⟩),.agg #[.int .u64 x,.int .i64 ((n:Int)+e)]] W fun ex w'=>ex=.returned (.tuple #[])/\Laid W w' p 8 ((dc e n mX im mY mZ (.slice (some ⟨g0,0,none⟩) m0 bH) (.slice (some ⟨g1,0,none⟩) m1 cD)).setIfInBounds (6+1) gQ) 211 (.slice (some ⟨g1,0,none⟩) m1 cD) f n x 1 e):=fun W G =>
     UJ (o:=8) (s:=1) (h:=e) Bh.o hn (.inl rfl) (by omega) (by omega) x HX.o x1 (D1.o.gw G) rfl rfl (jY Va.o fun q hq=>G.below.block q (Va.o.lt q hq).2) OW.o.2.1.2 (jo.o.ch1 hn)
    have d0:=U'.o.c0;have d1:=U'.o.c1;go_wp2_with fail;go_cut [] (fun wc=>ag (Laid W3 wc p 8 ((dc e n mX im mY mZ (.slice (some ⟨g0,0,none⟩) m0 bH) (.slice (some ⟨g1,0,none⟩) m1 cD)).setIfInBounds (6+1) gQ) 211 (.slice (some ⟨g1,0,none⟩) m1 cD) f n x (1) (e)))
    case first =>
     go_region_with (go_at_call 156;refine (LA.o _ ((Gw.refl _).drew)).mono ?_;rintro ex w8 ⟨rfl,hL⟩;have HL:ag (Laid W3 w8 p 8 ((dc e n mX im mY mZ (.slice (some ⟨g0,0,none⟩) m0 bH) (.slice (some ⟨g1,0,none⟩) m1 cD)).setIfInBounds (6+1) gQ) 211 (.slice (some ⟨g1,0,none⟩) m1 cD) f n x (1) (e)):=hL.undrew;clear hL)
     all_goals
      go_wp2_with fail;go_meet
     all_goals
      case rel=>exact HL.o
    case rest =>
     obtain ⟨W4,eW⟩:∃ wx,wx=wc:=⟨_,rfl⟩;subst eW;obtain ⟨⟨qd,ru,iR,H1,lT,H3,H4⟩,H5⟩:=hcut.o;have aJ:ag ((∃ S',dN (W4.setCell ⟨p,1,none⟩ (.int .i64 ((n:Int)+1))) p S' e (n+1) (aC f n x)/\∀ q,S' q->iM p (.slice (some ⟨g0,0,none⟩) m0 bH) (.slice (some ⟨g1,0,none⟩) m1 cD) q\/w.heap.size<=q)/\Gs (iM p (.slice (some ⟨g0,0,none⟩) m0 bH) (.slice (some ⟨g1,0,none⟩) m1 cD)) w (W4.setCell ⟨p,1,none⟩ (.int .i64 ((n:Int)+1)))):=by
      refine U7 (n:=n) (fun q hq=>by cases hq;exact OW.o.1) (fun q hq=>by cases hq;exact OW.o.2.1) (fun q hq hr=>by cases hq;cases hr;exact OW.o.2.2 rfl) lp GA.o D5.o D2.o D4.o D3.o H5 lT H4 H3 H1 (Cg Bh.o.up (fun _=>HX.o)) (fun i hi=>?_) SL.o.1 SL.o.2.1 FI.o ⟨e1,e2⟩ SL.o.2.2
      by_cases ov:i=n
      ·rw [ov,dO]
       exact ⟨x0,x1⟩
      ·rw [bu (by omega)]
       exact Bh.o.bd i (by omega)
     have q1:W4.cell? ⟨p,1,none⟩=some (.int .i64 n):=H1.cell rfl;have q2:=H1.fz 1;have q3:IntKind.i64.wrap ((n:Int)+1)=(n:Int)+1:=by rw [IntKind.wrap_i64];omega
     clear H1 lT H3 H4 H5 hcut D1 D2 D3 D4 D5 LA d0 d1;go_wp2_with fail;go_ret2;exact ⟨true,rfl,⟨fun _=>FI.o,fun _=>rfl⟩,(fun q=>Bool.noConfusion q),fun _=>aJ.o⟩
theorem adU {w:World} {p:Nat} {S:Nat->Prop} {e:Int} {n:Nat} {f:Nat->Int} (h:dN w p S e n f) (x:Int) (x0:0<=x) (x1:x<18446744073709551616) (hn:n<=3000000) :
  Calls prog 136 #[.pointer (some ⟨p,0,none⟩),.int .u64 x] w fun ex w' =>
   (∃ (ok:Bool) (err:Int) (S':Nat->Prop),ex=.returned (.tuple #[.bool ok,.int .i64 err])/\Ch e n f x ok err/\dN w' p S' e (if ok then n+1 else n) (if ok then aC f n x else f)/\∀ q,S' q->S q\/w.heap.size<=q)/\Gs S w w':=by
 have hk:=h;obtain ⟨v0,v1,lr,lf,mr,mf,m0,m1,c0,c1,F,hS⟩:=h;have pL:∀ w',Gw w w'->dN w' p S e n f:=fun w' G=>hk.keep fun q hq=>G.below.block q (hk.lt q hq)
 have GS:∀ w',Gs (iM p v0 v1) w w'->Gs S w w':=fun w' g=>⟨g.os,g.tape,g.output,g.size,fun q hq hs=>g.block q hq (fun r=>hs ((hS q).2 r))⟩
 by_cases hx:0<n/\x<=f (n-1)
 ·refine (adR F x x0 x1 hn hx.1 hx.2).mono ?_
  rintro ex w' ⟨rfl,g⟩;exact ⟨⟨false,40,S,rfl,.inl ⟨hx.1,hx.2,rfl,rfl⟩,pL w' g,fun q hq=>.inl hq⟩,g.gs S⟩
 ·by_cases hz:n=0
  ·subst hz
   refine (adS F x x0 x1).mono ?_;rintro ex w' ⟨rfl,⟨S',hF,Jc⟩,g⟩;refine ⟨⟨true,0,S',rfl,.inr ⟨hx,rfl,⟨fun _=>?_,fun _=>rfl⟩⟩,hF,fun q hq=>?_⟩,GS w' g⟩
   ·intro i j i' j' s
    have:=s.1;have:=s.2;omega
   ·rcases Jc q hq with r | r
    ·exact .inl ((hS q).2 r)
    ·exact .inr r
  ·have gX:f (n-1)<x:=by
    rcases Int.lt_or_le (f (n-1)) x with q | q
    ·exact q
    ·exact absurd ⟨by omega,q⟩ hx
   refine (adT F x x0 x1 hn (by omega) gX).mono ?_
   rintro ex w' ⟨ok,rfl,h1,h2,h3⟩;cases ok with
   | false=>exact ⟨⟨false,0,S,rfl,.inr ⟨hx,rfl,h1⟩,pL w' (h2 rfl),fun q hq=>.inl hq⟩,(h2 rfl).gs S⟩
   | true =>
    obtain ⟨⟨S',hF,Jc⟩,g⟩:=h3 rfl;refine ⟨⟨true,0,S',rfl,.inr ⟨hx,rfl,h1⟩,hF,fun q hq=>?_⟩,GS w' g⟩
    rcases Jc q hq with r | r
    ·exact .inl ((hS q).2 r)
    ·exact .inr r
theorem Vc:nN dN where
 keep:=dN.keep
 lt:=dN.lt
 ext:=dN.ext
 facts:=dN.facts
 bad:=adO
 new:=adP
 add:=adU
 least:=adQ
end Go.Proofs.YtklkpldicbkjeaaGreat
