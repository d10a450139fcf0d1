/- A Fit in memory: New, Count, Least, Most; what Add leaves. Add: a key that is not above the last; the first key. Add: one key more. -/
import Derived.Test.YtemijdhemdhclaaGreatNPCl
set_option linter.unusedVariables false
set_option maxHeartbeats 16000000
set_option maxRecDepth 10000
open Go.Proofs.Tryz
namespace Go.Proofs.YtemijdhemdhclaaGreat
open Go.RowKit
theorem Chn.congr {X X' g:Nat->Int} {n m:Nat} {c:Nat->Nat} (h:Chn X g n m c) (e:∀ i,i<n->X i=X' i):Chn X' g n m c:=by
 refine ⟨h.pos,h.first,h.last,h.up,fun i j hi hj=>?_⟩
 have:=h.abv i j hi hj
 rw [e j hj,e (c i) (h.bd (by omega)),e (c (i+1)) (h.bd hi)] at this
 exact this
structure FT (w:World) (p:Nat) (v0 v1:Value) (e:Int) (n:Nat) (f:Nat->Int) (lr lf mr mf:Int) (m0 m1:Nat) (c0 c1:Nat->Nat):Prop where
 blk:Blk w p (fcells e n lr lf mr mf v0 v1) 214
 own0:w.ownsRow 0 231 2 v0 m0 (pcells f c0 (-e) m0)
 own1:w.ownsRow 0 231 2 v1 m1 (pcells f c1 e m1)
 ne0:∀ q,v0.ownBlock=some q->q≠p
 ne1:∀ q,v1.ownBlock=some q->q≠p
 ne:∀ q,v0.ownBlock=some q->v1.ownBlock=some q->False
 z:n=0->v0=.slice none 0 0/\v1=.slice none 0 0
 ch0:0<n->Chn f (fun j=>-1*(j:Int)) n m0 c0
 ch1:0<n->Chn f (fun j=>1*(j:Int)) n m1 c1
 up:Up f n
 bd:∀ i,i<n->0<=f i/\f i<18446744073709551616
 low:LowU e f (Prs n) lr lf
 top:TopU e f (Prs n) mr mf
 fit:FitsOn e f (Prs n)
 e1:1<=e/\e<=63
 sb:SB lr lf mr mf
def FitS (p:Nat) (v0 v1:Value) (q:Nat):Prop:=q=p\/v0.ownBlock=some q\/v1.ownBlock=some q
def HFit (w:World) (p:Nat) (S:Nat->Prop) (e:Int) (n:Nat) (f:Nat->Int):Prop :=
 ∃ v0 v1 lr lf mr mf m0 m1 c0 c1,FT w p v0 v1 e n f lr lf mr mf m0 m1 c0 c1/\∀ q,S q↔FitS p v0 v1 q
theorem own_zero {w:World} {base e size n:Nat} {xs:List Value} (h:w.ownsRow base e size (.slice none 0 0) n xs):n=0:=by
 rcases h.2 with ⟨_,q⟩ | ⟨g,cap,cur,ev,_⟩
 ·exact q
 ·cases ev
theorem HFit.keep {w w':World} {p:Nat} {S:Nat->Prop} {e:Int} {n:Nat} {f:Nat->Int} (h:HFit w p S e n f) (k:∀ q,S q->w'.heap[q]?=w.heap[q]?):HFit w' p S e n f:=by
 obtain ⟨v0,v1,lr,lf,mr,mf,m0,m1,c0,c1,F,hS⟩:=h;exact ⟨v0,v1,lr,lf,mr,mf,m0,m1,c0,c1,{ F with blk:=(k p ((hS p).2 (.inl rfl))).trans F.blk,own0:=own_keep F.own0 fun q hq=>k q ((hS q).2 (.inr (.inl hq))),own1:=own_keep F.own1 fun q hq=>k q ((hS q).2 (.inr (.inr hq))) },hS⟩
theorem HFit.lt {w:World} {p:Nat} {S:Nat->Prop} {e:Int} {n:Nat} {f:Nat->Int} (h:HFit w p S e n f):∀ q,S q->q<w.heap.size:=by
 obtain ⟨v0,v1,lr,lf,mr,mf,m0,m1,c0,c1,F,hS⟩:=h;intro q hq;rcases (hS q).1 hq with rfl | r | r
 ·exact F.blk.lt
 ·exact (F.own0.lt q r).2
 ·exact (F.own1.lt q r).2
theorem HFit.ext {w:World} {p:Nat} {S:Nat->Prop} {e:Int} {n:Nat} {f g:Nat->Int} (h:HFit w p S e n f) (k:∀ i,i<n->f i=g i):HFit w p S e n g:=by
 obtain ⟨v0,v1,lr,lf,mr,mf,m0,m1,c0,c1,F,hS⟩:=h;have p0:pcells f c0 (-e) m0=pcells g c0 (-e) m0:=by
  by_cases hn:n=0
  ·have:=F.own0
   rw [(F.z hn).1] at this;have:=own_zero this;subst this;rfl
  ·exact pcells_congr _ fun i hi=>⟨k _ ((F.ch0 (by omega)).bd hi),rfl⟩
 have p1:pcells f c1 e m1=pcells g c1 e m1:=by
  by_cases hn:n=0
  ·have:=F.own1
   rw [(F.z hn).2] at this;have:=own_zero this;subst this;rfl
  ·exact pcells_congr _ fun i hi=>⟨k _ ((F.ch1 (by omega)).bd hi),rfl⟩
 have dif:∀ i j,Prs n i j->f j-f i=g j-g i:=fun i j s=>by rw [k j s.2,k i (by have:=s.1;have:=s.2;omega)]
 exact ⟨v0,v1,lr,lf,mr,mf,m0,m1,c0,c1,⟨F.blk,by rw [<-p0];exact F.own0,by rw [<-p1];exact F.own1,F.ne0,F.ne1,F.ne,F.z,fun hn=>(F.ch0 hn).congr k,fun hn=>(F.ch1 hn).congr k,
  fun j hj=>by rw [<-k j (by omega),<-k (j+1) hj];exact F.up j hj,fun i hi=>by rw [<-k i hi];exact F.bd i hi,F.low.congr (fun _ _=>Iff.rfl) dif,F.top.congr (fun _ _=>Iff.rfl) dif,F.fit.congr (fun _ _ s=>s) dif,F.e1,F.sb⟩,hS⟩
theorem HFit.facts {w:World} {p:Nat} {S:Nat->Prop} {e:Int} {n:Nat} {f:Nat->Int} (h:HFit w p S e n f):Up f n/\(∀ i,i<n->0<=f i/\f i<18446744073709551616)/\FitsOn e f (Prs n)/\1<=e/\e<=63:=by
 obtain ⟨v0,v1,lr,lf,mr,mf,m0,m1,c0,c1,F,hS⟩:=h;exact ⟨F.up,F.bd,F.fit,F.e1.1,F.e1.2⟩
theorem hnew_bad (eps:Int) (h:¬ (2<=eps/\eps<=64)) (w:World):Calls prog 127 #[.int .i64 eps] w fun ex w'=>ex=.returned (.tuple #[.pointer none,.int .i64 1])/\Gw w w':=by
 have alt:eps<2\/(¬ eps<2/\64<eps):=by omega
 clear h;rcases alt with q | ⟨q,q'⟩
 ·go_enter func127,ntmps127
  go_wp2_with fail;go_ret2
  exact ⟨rfl,Gw.refl w⟩
 ·go_enter func127,ntmps127
  go_wp2_with fail;go_ret2
  exact ⟨rfl,Gw.refl w⟩
theorem hnew_ok (eps:Int) (h1:2<=eps) (h2:eps<=64) (w:World):Calls prog 127 #[.int .i64 eps] w fun ex w'=>(∃ p S,ex=.returned (.tuple #[.pointer (some ⟨p,0,none⟩),.int .i64 0])/\(∀ q,S q->w.heap.size<=q)/\HFit w' p S (eps-1) 0 (fun _=>0))/\Gw w w':=by
 have z1:¬ eps<2:=by omega
 have z2:¬ 64<eps:=by omega
 have we:IntKind.i64.wrap (eps-1)=eps-1:=by rw [IntKind.wrap_i64];omega
 have FIN:Hid (HFit (w.alloc (.cells (fcells (eps-1) 0 0 1 1 0 (.slice none 0 0) (.slice none 0 0)) 214)) w.heap.size (FitS w.heap.size (.slice none 0 0) (.slice none 0 0)) (eps-1) 0 (fun _=>0)):=by
  refine ⟨.slice none 0 0,.slice none 0 0,0,1,1,0,0,0,fun _=>0,fun _=>0,⟨heap_alloc_new w _,World.ownsRow_nil _ _ _ _,World.ownsRow_nil _ _ _ _,(fun q hq=>by cases hq),(fun q hq=>by cases hq),(fun q hq=>by cases hq),fun _=>⟨rfl,rfl⟩,(fun h=>by omega),(fun h=>by omega),(fun j hj=>by omega),(fun i hi=>by omega),?_,?_,?_,by omega,?_⟩,fun q=>Iff.rfl⟩
  ·exact ⟨by omega,by omega,fun i j s=>by have:=s.1;have:=s.2;omega,.inl rfl⟩
  ·exact .inl ⟨rfl,rfl,fun i j s=>by have:=s.1;have:=s.2;omega⟩
  ·intro i j i' j' s;have:=s.1;have:=s.2;omega
  ·exact ⟨by decide,by decide,by decide,by decide,by decide,by decide,by decide,by decide⟩
 have SS:Hid (∀ q,FitS w.heap.size (.slice none 0 0) (.slice none 0 0) q->w.heap.size<=q):=by
  intro q hq;rcases hq with rfl | r | r
  ·exact Nat.le_refl _
  ·cases r
  ·cases r
 go_enter func127,ntmps127;go_wp2_with fail;go_ret2
 first
  | exact ⟨⟨w.heap.size,_,rfl,SS.out,FIN.out⟩,(Gw.refl w).alloc _ _⟩
  | exact ⟨⟨w.heap.size,rfl,_,SS.out,FIN.out⟩,(Gw.refl w).alloc _ _⟩
theorem part_le {c g a:Int} (g0:0<g) (e:c*g=a) (c0:0<=c):c<=a:=by
 have:c*1<=c*g:=Int.mul_le_mul_of_nonneg_left (by omega) c0
 omega
theorem hleast {w:World} {p:Nat} {S:Nat->Prop} {e:Int} {n:Nat} {f:Nat->Int} (h:HFit w p S e n f) (hn:n<=3000001):Calls prog 146 #[.pointer (some ⟨p,0,none⟩)] w fun ex w'=>(∃ a b,ex=.returned (.agg #[.int .u64 a,.int .u64 b])/\LowOn e f (Prs n) a b/\a<18446744073709551616/\b<18446744073709551616)/\Gw w w':=by
 obtain ⟨v0,v1,lr,lf,mr,mf,m0,m1,c0,c1,F,hS⟩:=h;have k2:=F.blk.cell (o:=2) (v:=.int .i64 lr) rfl;have k3:=F.blk.cell (o:=3) (v:=.int .u64 lf) rfl;have lp:=F.blk.lt;have SL:Hid (∀ W,Calls prog 159 #[.agg #[.int .i64 lr,.int .u64 lf]] W fun ex w'=>(∃ a b,ex=.returned (.agg #[.int .u64 a,.int .u64 b])/\LowOn e f (Prs n) a b/\a<18446744073709551616/\b<18446744073709551616)/\Gw W w'):=by
  intro W;have b1:=F.low.b1;have s1:=F.sb.l1;have s3:=F.sb.l3;refine (slow_any lr lf F.low.a0 (by omega) (by omega) s3 W).mono ?_
  rintro ex w' ⟨⟨c,d,g,rfl,g0,ec,ed,hg⟩,G⟩;have L:=F.low.red g0 ec ed hg;have q1:=part_le g0 ec L.a0;have q2:=part_le g0 ed (by have:=L.b1;omega)
  exact ⟨⟨c,d,rfl,L,by omega,by omega⟩,G⟩
 clear F hS;go_enter func146,ntmps146;go_wp2_with fail;refine (SL.out _).mono ?_;rintro ex w1 ⟨⟨a,b,rfl,hL⟩,g1⟩;have X:Hid (Bx w1 w.heap.size 219 (.int .u64 0) (.int .u64 0)):=(Bx.new w _ _ _).gw g1;have HL:Hid _:=hL;have G1:Hid (Gw w w1):=((Gw.refl w).alloc _ _).trans g1;have x0:=X.out.c0;have x1:=X.out.c1;have x2:=X.out.fz 0;have x3:=X.out.fz 1;clear g1 hL;go_wp2_with fail;have Y:=X.out.set (.int .u64 a) (.int .u64 b);have y0:=Y.c0;have y1:=Y.c1;clear x0 x1 x2 x3;refine bodyPost_ret (v:=.agg #[.int .u64 a,.int .u64 b]) (by simp [results,results146,go_sem,y0,y1]) rfl ⟨⟨a,b,rfl,HL.out⟩,?_⟩
 exact (G1.out.setCell (by simp) _).setCell (by simp) _
theorem fit_done {w wa wb wd:World} {p:Nat} {v0 v1 v0' v1':Value} {e:Int} {n:Nat} {f:Nat->Int} {x lr lf mr mf:Int} {m0' m1':Nat} {c0' c1':Nat->Nat}
  (o0:∀ q,v0.ownBlock=some q->q<w.heap.size/\q≠p) (o1:∀ q,v1.ownBlock=some q->q<w.heap.size/\q≠p) (ne:∀ q,v0.ownBlock=some q->v1.ownBlock=some q->False) (lp:p<w.heap.size)
  (Ga:Gs (fun q=>q=p) w wa)
  (Gb:Gs (fun q=>q=p\/v0.ownBlock=some q) wa wb) (O0:wb.ownsRow 0 231 2 v0' m0' (pcells (upd f n x) c0' (-e) m0')) (Q0:∀ q,v0'.ownBlock=some q->(v0.ownBlock=some q\/wa.heap.size<=q)/\q≠p) (C0:Chn (upd f n x) (fun j=>-1*(j:Int)) (n+1) m0' c0')
  (Gd:Gs (fun q=>q=p\/v1.ownBlock=some q) wb wd) (O1:wd.ownsRow 0 231 2 v1' m1' (pcells (upd f n x) c1' e m1')) (Q1:∀ q,v1'.ownBlock=some q->(v1.ownBlock=some q\/wb.heap.size<=q)/\q≠p) (C1:Chn (upd f n x) (fun j=>1*(j:Int)) (n+1) m1' c1')
  (hB:Blk wd p (((fcells e n lr lf mr mf v0 v1).setIfInBounds (6+1) v0').setIfInBounds (8+1) v1') 214)
  (up:Up (upd f n x) (n+1)) (bd:∀ i,i<n+1->0<=upd f n x i/\upd f n x i<18446744073709551616) (low:LowU e (upd f n x) (Prs (n+1)) lr lf) (top:TopU e (upd f n x) (Prs (n+1)) mr mf) (fit:FitsOn e (upd f n x) (Prs (n+1))) (e1:1<=e/\e<=63) (sb:SB lr lf mr mf) :
  (∃ S',HFit (wd.setCell ⟨p,1,none⟩ (.int .i64 ((n:Int)+1))) p S' e (n+1) (upd f n x)/\∀ q,S' q->FitS p v0 v1 q\/w.heap.size<=q)/\Gs (FitS p v0 v1) w (wd.setCell ⟨p,1,none⟩ (.int .i64 ((n:Int)+1))):=by
 have sa:=Ga.size;have sb':=Gb.size;have x0:∀ q,v0'.ownBlock=some q->q<wb.heap.size/\q≠p/\v1.ownBlock≠some q:=by
  intro q hq;refine ⟨(O0.lt q hq).2,(Q0 q hq).2,fun r=>?_⟩
  rcases (Q0 q hq).1 with t | t
  ·exact ne q t r
  ·have:=(o1 q r).1;omega
 have blk:Blk (wd.setCell ⟨p,1,none⟩ (.int .i64 ((n:Int)+1))) p (fcells e (n+1) lr lf mr mf v0' v1') 214:=hB.set 1 _;refine ⟨⟨FitS p v0' v1',⟨v0',v1',lr,lf,mr,mf,m0',m1',c0',c1',⟨blk,?_,?_,fun q hq=>(x0 q hq).2.1,fun q hq=>(Q1 q hq).2,?_,fun h=>by omega,fun _=>C0,fun _=>C1,up,bd,low,top,fit,e1,sb⟩,fun q=>Iff.rfl⟩,?_⟩,?_⟩
 ·refine own_keep O0 fun q hq=>?_
  obtain ⟨h1,h2,h3⟩:=x0 q hq;rw [Go.Deep.blk_setCell_other _ _ _ _ h2];exact Gd.block q h1 (fun r=>by rcases r with r | r;exact h2 r;exact h3 r)
 ·refine own_keep O1 fun q hq=>?_
  rw [Go.Deep.blk_setCell_other _ _ _ _ (Q1 q hq).2]
 ·intro q h0 h1
  obtain ⟨t1,t2,t3⟩:=x0 q h0;rcases (Q1 q h1).1 with r | r
  ·exact t3 r
  ·omega
 ·intro q hq
  rcases hq with rfl | r | r
  ·exact .inl (.inl rfl)
  ·rcases (Q0 q r).1 with t | t
   ·exact .inl (.inr (.inl t))
   ·exact .inr (by omega)
  ·rcases (Q1 q r).1 with t | t
   ·exact .inl (.inr (.inr t))
   ·exact .inr (by omega)
 ·refine Gs.set ?_ (.inl rfl) _ _
  refine ⟨Gd.os.trans (Gb.os.trans Ga.os),Gd.tape.trans (Gb.tape.trans Ga.tape),Gd.output.trans (Gb.output.trans Ga.output),by have:=Gd.size;omega,fun q hq hs=>?_⟩
  have n1:q≠p:=fun r=>hs (.inl r)
  have n2:¬ (v0.ownBlock=some q):=fun r=>hs (.inr (.inl r))
  have n3:¬ (v1.ownBlock=some q):=fun r=>hs (.inr (.inr r))
  rw [Gd.block q (by omega) (fun r=>by rcases r with r | r;exact n1 r;exact n3 r),Gb.block q (by omega) (fun r=>by rcases r with r | r;exact n1 r;exact n2 r),Ga.block q hq n1]
theorem Laid.undrew {w w':World} {p o:Nat} {B:Array Value} {T:TypeId} {v:Value} {f:Nat->Int} {n:Nat} {x s h:Int} (k:Laid w.drew w' p o B T v f n x s h):Laid w w' p o B T v f n x s h :=
 ⟨k.1,k.2.os,k.2.tape,k.2.output,k.2.size,k.2.block⟩
theorem Bx.gs' {S:Nat->Prop} {w w':World} {b:Nat} {t:TypeId} {u v:Value} (h:Bx w b t u v) (g:Gs S w w') (n:¬ S b):Bx w' b t u v:=(g.block b h.lt n).trans h
theorem FT.chains {w:World} {p:Nat} {v0 v1:Value} {e:Int} {n:Nat} {f:Nat->Int} {lr lf mr mf:Int} {m0 m1:Nat} {c0 c1:Nat->Nat} (F:FT w p v0 v1 e n f lr lf mr mf m0 m1 c0 c1) (hn:0<n) :
  ∃ g0 cap0 g1 cap1,v0=.slice (some ⟨g0,0,none⟩) m0 cap0/\v1=.slice (some ⟨g1,0,none⟩) m1 cap1/\CH w p 6 g0 m0 cap0 (-1) (-e) f n c0/\CH w p 8 g1 m1 cap1 1 e f n c1:=by
 obtain ⟨g0,cap0,e0,_,_⟩:=F.own0.form (F.ch0 hn).pos;obtain ⟨g1,cap1,e1,_,_⟩:=F.own1.form (F.ch1 hn).pos;subst e0;subst e1;exact ⟨g0,cap0,g1,cap1,rfl,rfl,⟨F.blk.lt,F.blk.cell rfl,F.blk.cell rfl,ps_own F.own0,F.ch0 hn⟩,⟨F.blk.lt,F.blk.cell rfl,F.blk.cell rfl,ps_own F.own1,F.ch1 hn⟩⟩
theorem hadd_back {w:World} {p:Nat} {v0 v1:Value} {e:Int} {n:Nat} {f:Nat->Int} {lr lf mr mf:Int} {m0 m1:Nat} {c0 c1:Nat->Nat} (F:FT w p v0 v1 e n f lr lf mr mf m0 m1 c0 c1) (x:Int) (x0:0<=x) (x1:x<18446744073709551616) (hn':n<=3000000) (hn:0<n) (hx:x<=f (n-1)) :
  Calls prog 143 #[.pointer (some ⟨p,0,none⟩),.int .u64 x] w fun ex w'=>ex=.returned (.tuple #[.bool false,.int .i64 40])/\Gw w w':=by
 have kb:KB f n:=⟨F.up,F.bd,by omega⟩
 obtain ⟨g0,cap0,g1,cap1,_,_,k0,k1⟩:=F.chains hn;have LA:Hid (Calls prog 156 #[.pointer (some ⟨p,6,none⟩)] w fun e' w'=>e'=.returned (.agg #[.int .u64 (f (n-1)),.int .i64 (((n-1:Nat):Int)+-e)])/\Gw w w'):=last_any kb w k0
 have c1':=F.blk.cell (o:=1) (v:=.int .i64 n) rfl;have hni:(0:Int)<n:=by omega
 generalize f (n-1)=fl at LA hx;generalize ((n-1:Nat):Int)+-e=yl at LA;have hfd:∀ W:World,(Instr.field 231 (.agg #[.int .u64 fl,.int .i64 yl]) 0).run prog W=.ok (.int .u64 fl) W:=fun _=>by kernel_rfl
 clear F k0 k1 kb;go_enter func143,ntmps143;go_wp2_with fail;refine LA.out.mono ?_;rintro ex w1 ⟨rfl,g1⟩;have G1:Hid _:=g1;clear g1;go_wp2_with fail;go_ret2;exact ⟨rfl,G1.out⟩
theorem hadd_first {w:World} {p:Nat} {v0 v1:Value} {e:Int} {f:Nat->Int} {lr lf mr mf:Int} {m0 m1:Nat} {c0 c1:Nat->Nat} (F:FT w p v0 v1 e 0 f lr lf mr mf m0 m1 c0 c1) (x:Int) (x0:0<=x) (x1:x<18446744073709551616) :
  Calls prog 143 #[.pointer (some ⟨p,0,none⟩),.int .u64 x] w fun ex w'=>ex=.returned (.tuple #[.bool true,.int .i64 0])/\(∃ S',HFit w' p S' e 1 (upd f 0 x)/\∀ q,S' q->FitS p v0 v1 q\/w.heap.size<=q)/\Gs (FitS p v0 v1) w w':=by
 obtain ⟨z0,z1⟩:=F.z rfl;subst z0;subst z1;obtain ⟨e1,e2⟩:=F.e1;have HB:Hid (Blk w p (fcells e 0 lr lf mr mf (.slice none 0 0) (.slice none 0 0)) 214):=F.blk;have HF:Hid (LowU e (upd f 0 x) (Prs (0+1)) lr lf/\TopU e (upd f 0 x) (Prs (0+1)) mr mf/\FitsOn e (upd f 0 x) (Prs (0+1))/\SB lr lf mr mf):=by
  refine ⟨F.low.congr (fun i j=>?_) (fun i j s=>by have:=s.1;have:=s.2;omega),F.top.congr (fun i j=>?_) (fun i j s=>by have:=s.1;have:=s.2;omega),fun i j i' j' s=>by have:=s.1;have:=s.2;omega,F.sb⟩
  ·unfold Prs;omega
  ·unfold Prs;omega
 have c1':=F.blk.cell (o:=1) (v:=.int .i64 0) rfl;have c0':=F.blk.cell (o:=0) (v:=.int .i64 e) rfl;have lp:=F.blk.lt;have we1:IntKind.i64.wrap (0-e)=-e:=by rw [IntKind.wrap_i64];omega
 have we2:IntKind.i64.wrap (-e)=-e:=by rw [IntKind.wrap_i64];omega
 clear F;go_enter func143,ntmps143;go_wp2_with fail;go_cut [7,8] (fun s7 s8 wc=>∃ (b7 b8:Nat),s7=.pointer (some ⟨b7,0,none⟩)/\s8=.pointer (some ⟨b8,0,none⟩)/\Aside (Bx wc b7 231 (.int .u64 x) (.int .i64 (-e)))/\Aside (Bx wc b8 231 (.int .u64 x) (.int .i64 (e)))/\Aside (w.heap.size<=b7)/\Aside (w.heap.size<=b8)/\Aside (Gw w wc))
 case first =>
  go_region
  all_goals
   go_wp2_with fail;go_meet
  all_goals
   case rel =>
    first
     | exact ⟨w.heap.size,w.heap.size+1,rfl,rfl,(show Aside _ from (Bx.new w _ _ _).alloc _),(show Aside _ from (Bx.new _ _ _ _).at (by simp)),(show Aside _ from Nat.le_refl _),(show Aside _ from Nat.le_succ _),(show Aside _ from (((Gw.refl w).alloc _ _).alloc _ _).drew)⟩
     | exact ⟨w.heap.size+1,w.heap.size,rfl,rfl,(show Aside _ from (Bx.new _ _ _ _).at (by simp)),(show Aside _ from (Bx.new w _ _ _).alloc _),(show Aside _ from Nat.le_succ _),(show Aside _ from Nat.le_refl _),(show Aside _ from (((Gw.refl w).alloc _ _).alloc _ _).drew)⟩
 case rest =>
  obtain ⟨W1,hwx⟩:∃ wx,wx=wc:=⟨_,rfl⟩;subst hwx;obtain ⟨b7,b8,rfl,rfl,B7,B8,L7,L8,G1⟩:=hcut;have F1:Hid (Blk W1 p (fcells e 0 lr lf mr mf (.slice none 0 0) (.slice none 0 0)) 214):=HB.out.gw G1.out;have LA:Hid (∀ W,Gw W1 W->Calls prog 158 #[.pointer (some ⟨p,6,none⟩),.agg #[.int .u64 x,.int .i64 (-e)]] W fun ex w'=>ex=.returned (.tuple #[])/\Laid W w' p 6 (fcells e 0 lr lf mr mf (.slice none 0 0) (.slice none 0 0)) 214 (.slice none 0 0) f 0 x (-1) (-e)):=fun W G=>lay_first (by omega) (by omega) x x0 x1 (F1.out.gw G) rfl
  have d0:=B7.out.c0;have d1:=B7.out.c1;have d2:=F1.out.cell (o:=1) (v:=.int .i64 0) rfl;clear c1' c0' we1 we2;go_wp2_with fail;go_cut [] (fun wc=>Aside (Laid W1 wc p 6 (fcells e 0 lr lf mr mf (.slice none 0 0) (.slice none 0 0)) 214 (.slice none 0 0) f 0 x (-1) (-e)))
  case first =>
   go_region_with (go_at_call 158;refine (LA.out _ ((Gw.refl _).drew)).mono ?_;rintro ex w8 ⟨rfl,hL⟩;have HL:Hid (Laid W1 w8 p 6 (fcells e 0 lr lf mr mf (.slice none 0 0) (.slice none 0 0)) 214 (.slice none 0 0) f 0 x (-1) (-e)):=hL.undrew;clear hL)
   all_goals
    go_wp2_with fail;go_meet
   all_goals
    case rel=>exact HL.out
  case rest =>
   obtain ⟨W2,hwx⟩:∃ wx,wx=wc:=⟨_,rfl⟩;subst hwx;obtain ⟨⟨v0',m0',c0',H1,H2',H3,H4⟩,H5⟩:=hcut.out;have D1:Hid (Blk W2 p ((fcells e 0 lr lf mr mf (.slice none 0 0) (.slice none 0 0)).setIfInBounds (6+1) v0') 214):=H1;have D2:Hid _:=H2';have D3:Hid _:=H3;have D4:Hid _:=H4;have D5:Hid _:=H5;have B82:Hid (Bx W2 b8 231 (.int .u64 x) (.int .i64 e)):=B8.out.gs' H5 (fun r=>by rcases r with r | r;(have:=L8.out;omega);cases r)
   clear H1 H2' H3 H4 H5 hcut LA d0 d1 d2;have LA:Hid (∀ W,Gw W2 W->Calls prog 158 #[.pointer (some ⟨p,8,none⟩),.agg #[.int .u64 x,.int .i64 e]] W fun ex w'=>ex=.returned (.tuple #[])/\Laid W w' p 8 ((fcells e 0 lr lf mr mf (.slice none 0 0) (.slice none 0 0)).setIfInBounds (6+1) v0') 214 (.slice none 0 0) f 0 x 1 e):=fun W G=>lay_first (by omega) (by omega) x x0 x1 (D1.out.gw G) rfl
   have d0:=B82.out.c0;have d1:=B82.out.c1;go_wp2_with fail;go_cut [] (fun wc=>Aside (Laid W2 wc p 8 ((fcells e 0 lr lf mr mf (.slice none 0 0) (.slice none 0 0)).setIfInBounds (6+1) v0') 214 (.slice none 0 0) f 0 x (1) (e)))
   case first =>
    go_region_with (go_at_call 158;refine (LA.out _ ((Gw.refl _).drew)).mono ?_;rintro ex w8 ⟨rfl,hL⟩;have HL:Hid (Laid W2 w8 p 8 ((fcells e 0 lr lf mr mf (.slice none 0 0) (.slice none 0 0)).setIfInBounds (6+1) v0') 214 (.slice none 0 0) f 0 x (1) (e)):=hL.undrew;clear hL)
    all_goals
     go_wp2_with fail;go_meet
    all_goals
     case rel=>exact HL.out
   case rest =>
    obtain ⟨W3,hwx⟩:∃ wx,wx=wc:=⟨_,rfl⟩;subst hwx;obtain ⟨⟨v1',m1',c1',H1,H2',H3,H4⟩,H5⟩:=hcut.out;have FIN:Hid ((∃ S',HFit (W3.setCell ⟨p,1,none⟩ (.int .i64 1)) p S' e (0+1) (upd f 0 x)/\∀ q,S' q->FitS p (.slice none 0 0) (.slice none 0 0) q\/w.heap.size<=q)/\Gs (FitS p (.slice none 0 0) (.slice none 0 0)) w (W3.setCell ⟨p,1,none⟩ (.int .i64 1))):=by
     refine fit_done (n:=0) (fun q hq=>by cases hq) (fun q hq=>by cases hq) (fun q hq=>by cases hq) lp (G1.out.gs _) D5.out D2.out D4.out D3.out H5 H2' H4 H3 H1 (fun j hj=>by omega) (fun i hi=>?_) HF.out.1 HF.out.2.1 HF.out.2.2.1 ⟨e1,e2⟩ HF.out.2.2.2
     have:i=0:=by omega
     subst this;rw [upd_at];exact ⟨x0,x1⟩
    have q1:W3.cell? ⟨p,1,none⟩=some (.int .i64 0):=H1.cell rfl;have q2:=H1.fz 1;clear H1 H2' H3 H4 H5 hcut D1 D2 D3 D4 D5 LA d0 d1;go_wp2_with fail;go_ret2;exact ⟨rfl,FIN.out.1,FIN.out.2⟩
theorem hadd_more {w:World} {p:Nat} {v0 v1:Value} {e:Int} {n:Nat} {f:Nat->Int} {lr lf mr mf:Int} {m0 m1:Nat} {c0 c1:Nat->Nat} (F:FT w p v0 v1 e n f lr lf mr mf m0 m1 c0 c1) (x:Int) (x0:0<=x) (x1:x<18446744073709551616) (hn':n<=3000000) (hn:0<n) (hx:f (n-1)<x) :
  Calls prog 143 #[.pointer (some ⟨p,0,none⟩),.int .u64 x] w fun ex w'=>∃ ok:Bool,ex=.returned (.tuple #[.bool ok,.int .i64 0])/\(ok=true↔FitsOn e (upd f n x) (Prs (n+1)))/\(ok=false->Gw w w')/\(ok=true->(∃ S',HFit w' p S' e (n+1) (upd f n x)/\∀ q,S' q->FitS p v0 v1 q\/w.heap.size<=q)/\Gs (FitS p v0 v1) w w'):=by
 have kb:KB f n:=⟨F.up,F.bd,by omega⟩
 obtain ⟨e1,e2⟩:=F.e1;obtain ⟨g0,cap0,g1,cap1,ev0,ev1,k0,k1⟩:=F.chains hn;subst ev0;subst ev1;have LA0:Hid (Calls prog 156 #[.pointer (some ⟨p,6,none⟩)] w fun e' w'=>e'=.returned (.agg #[.int .u64 (f (n-1)),.int .i64 (((n-1:Nat):Int)+-e)])/\Gw w w'):=last_any kb w k0
 have NA:Hid (∀ W,Gw w W->Calls prog 157 #[.pointer (some ⟨p,0,none⟩),.agg #[.int .u64 x,.int .i64 ((n:Int)-e)],.agg #[.int .u64 x,.int .i64 ((n:Int)+e)]] W fun ex w'=>∃ ok:Bool,ex=.returned (.bool ok)/\Narrowed W w' p e n f x (.slice (some ⟨g0,0,none⟩) m0 cap0) (.slice (some ⟨g1,0,none⟩) m1 cap1) ok):=fun W G=>narrow_any kb hn hn' e1 e2 x hx x1 (F.blk.gw G) (k0.gw G) (k1.gw G) F.low F.top F.sb
 have HFT:Hid (FT w p (.slice (some ⟨g0,0,none⟩) m0 cap0) (.slice (some ⟨g1,0,none⟩) m1 cap1) e n f lr lf mr mf m0 m1 c0 c1):=F;have KB':Hid (KB f n):=kb;have c1':=F.blk.cell (o:=1) (v:=.int .i64 n) rfl;have lp:=F.blk.lt;have hni:(0:Int)<n:=by omega
 have we1:IntKind.i64.wrap ((n:Int)-e)=(n:Int)-e:=by rw [IntKind.wrap_i64];omega
 have we2:IntKind.i64.wrap ((n:Int)+e)=(n:Int)+e:=by rw [IntKind.wrap_i64];omega
 have HX:Hid (f (n-1)<x):=hx;have hx':¬ x<=f (n-1):=by omega
 generalize f (n-1)=fl at LA0 hx';generalize ((n-1:Nat):Int)+-e=yl at LA0;have hfd:∀ W:World,(Instr.field 231 (.agg #[.int .u64 fl,.int .i64 yl]) 0).run prog W=.ok (.int .u64 fl) W:=fun _=>by kernel_rfl
 clear F k0 k1 kb hx;go_enter func143,ntmps143;go_wp2_with fail;refine LA0.out.mono ?_;rintro ex wz ⟨rfl,gz⟩;have GZ:Hid _:=gz;have c2':=(GZ.out.cell p 1 lp).trans c1';have c0':=(GZ.out.cell p 0 lp).trans (HFT.out.blk.cell (o:=0) (v:=.int .i64 e) rfl);have lpz:p<wz.heap.size:=Nat.lt_of_lt_of_le lp GZ.out.size;clear gz LA0;go_wp2_with fail;go_cut [7,8] (fun s7 s8 wc=>∃ (b7 b8:Nat),s7=.pointer (some ⟨b7,0,none⟩)/\s8=.pointer (some ⟨b8,0,none⟩)/\Aside (Bx wc b7 231 (.int .u64 x) (.int .i64 ((n:Int)-e)))/\Aside (Bx wc b8 231 (.int .u64 x) (.int .i64 ((n:Int)+e)))/\Aside (wz.heap.size<=b7)/\Aside (wz.heap.size<=b8)/\Aside (Gw wz wc))
 case first =>
  go_region
  all_goals
   go_wp2_with fail;go_meet
  all_goals
   case rel =>
    first
     | exact ⟨wz.heap.size,wz.heap.size+1,rfl,rfl,(show Aside _ from (Bx.new wz _ _ _).alloc _),(show Aside _ from (Bx.new _ _ _ _).at (by simp)),(show Aside _ from Nat.le_refl _),(show Aside _ from Nat.le_succ _),(show Aside _ from (((Gw.refl wz).alloc _ _).alloc _ _).drew)⟩
     | exact ⟨wz.heap.size+1,wz.heap.size,rfl,rfl,(show Aside _ from (Bx.new _ _ _ _).at (by simp)),(show Aside _ from (Bx.new wz _ _ _).alloc _),(show Aside _ from Nat.le_succ _),(show Aside _ from Nat.le_refl _),(show Aside _ from (((Gw.refl wz).alloc _ _).alloc _ _).drew)⟩
 case rest =>
  obtain ⟨W1,hwx⟩:∃ wx,wx=wc:=⟨_,rfl⟩;subst hwx;obtain ⟨b7,b8,rfl,rfl,B7,B8,L7,L8,G1⟩:=hcut;have GW1:Hid (Gw w W1):=GZ.out.trans G1.out;have l7:w.heap.size<=b7:=Nat.le_trans GZ.out.size L7.out;have l8:w.heap.size<=b8:=Nat.le_trans GZ.out.size L8.out;have d0:=B7.out.c0;have d1:=B7.out.c1;have d2:=B8.out.c0;have d3:=B8.out.c1;have d4:=(GW1.out.cell p 1 lp).trans c1';clear c1' c2' c0' we1 we2 hx' lpz;go_wp2_with fail;refine (NA.out _ GW1.out).mono ?_;rintro ex W2 ⟨ok,rfl,hN⟩;have HN:Hid (Narrowed W1 W2 p e n f x (.slice (some ⟨g0,0,none⟩) m0 cap0) (.slice (some ⟨g1,0,none⟩) m1 cap1) ok):=hN;clear hN NA d0 d1 d2 d3 d4;cases ok with
  | false =>
   go_wp2_with fail;go_ret2
   exact ⟨false,rfl,HN.out.1,fun _=>GW1.out.trans (HN.out.2.1 rfl),fun q=>Bool.noConfusion q⟩
  | true =>
   have FI:Hid _:=HN.out.1.1 rfl;obtain ⟨⟨lr',lf',mr',mf',hB,hL,hT,hS⟩,hG⟩:=HN.out.2.2 rfl;have HB2:Hid (Blk W2 p (fcells e n lr' lf' mr' mf' (.slice (some ⟨g0,0,none⟩) m0 cap0) (.slice (some ⟨g1,0,none⟩) m1 cap1)) 214):=hB;have SL:Hid (LowU e (upd f n x) (Prs (n+1)) lr' lf'/\TopU e (upd f n x) (Prs (n+1)) mr' mf'/\SB lr' lf' mr' mf'):=⟨hL,hT,hS⟩;have GA:Hid (Gs (fun q=>q=p) w W2):=⟨hG.os.trans GW1.out.below.os,hG.tape.trans GW1.out.below.tape,hG.output.trans GW1.out.below.output,Nat.le_trans GW1.out.size hG.size,fun q hq hs=>(hG.block q (Nat.lt_of_lt_of_le hq GW1.out.size) hs).trans (GW1.out.below.block q hq)⟩
   have B72:Hid (Bx W2 b7 231 (.int .u64 x) (.int .i64 ((n:Int)-e))):=B7.out.gs' hG (fun r=>by have:b7=p:=r;omega)
   have B82:Hid (Bx W2 b8 231 (.int .u64 x) (.int .i64 ((n:Int)+e))):=B8.out.gs' hG (fun r=>by have:b8=p:=r;omega)
   have OW:Hid ((g0<w.heap.size/\g0≠p)/\(g1<w.heap.size/\g1≠p)/\g0≠g1):=⟨⟨(HFT.out.own0.lt g0 rfl).2,HFT.out.ne0 g0 rfl⟩,⟨(HFT.out.own1.lt g1 rfl).2,HFT.out.ne1 g1 rfl⟩,fun q=>HFT.out.ne g0 rfl (by rw [q];rfl)⟩
   have O02:Hid (W2.ownsRow 0 231 2 (.slice (some ⟨g0,0,none⟩) m0 cap0) m0 (pcells f c0 (-e) m0)):=own_keep HFT.out.own0 fun q hq=>GA.out.block q (HFT.out.own0.lt q hq).2 (HFT.out.ne0 q hq)
   have O12:Hid (W2.ownsRow 0 231 2 (.slice (some ⟨g1,0,none⟩) m1 cap1) m1 (pcells f c1 e m1)):=own_keep HFT.out.own1 fun q hq=>GA.out.block q (HFT.out.own1.lt q hq).2 (HFT.out.ne1 q hq)
   have LA:Hid (∀ W,Gw W2 W->Calls prog 158 #[.pointer (some ⟨p,6,none⟩),.agg #[.int .u64 x,.int .i64 ((n:Int)-e)]] W fun ex w'=>ex=.returned (.tuple #[])/\Laid W w' p 6 (fcells e n lr' lf' mr' mf' (.slice (some ⟨g0,0,none⟩) m0 cap0) (.slice (some ⟨g1,0,none⟩) m1 cap1)) 214 (.slice (some ⟨g0,0,none⟩) m0 cap0) f n x (-1) (-e)):=fun W G=>(by
    have:=lay_more (o:=6) (s:=-1) (h:=-e) KB'.out hn (.inr rfl) (by omega) (by omega) x HX.out x1 (HB2.out.gw G) rfl rfl (own_keep O02.out fun q hq=>G.below.block q (O02.out.lt q hq).2) OW.out.1.2 (HFT.out.ch0 hn)
    rw [show (n:Int)+-e=(n:Int)-e by omega] at this
    exact this)
   have d0:=B72.out.c0;have d1:=B72.out.c1;clear HN hB hL hT hS hG B7 B8 B72 GW1 GZ G1;go_wp2_with fail;go_cut [] (fun wc=>Aside (Laid W2 wc p 6 (fcells e n lr' lf' mr' mf' (.slice (some ⟨g0,0,none⟩) m0 cap0) (.slice (some ⟨g1,0,none⟩) m1 cap1)) 214 (.slice (some ⟨g0,0,none⟩) m0 cap0) f n x (-1) (-e)))
   case first =>
    go_region_with (go_at_call 158;refine (LA.out _ ((Gw.refl _).drew)).mono ?_;rintro ex w8 ⟨rfl,hL⟩;have HL:Hid (Laid W2 w8 p 6 (fcells e n lr' lf' mr' mf' (.slice (some ⟨g0,0,none⟩) m0 cap0) (.slice (some ⟨g1,0,none⟩) m1 cap1)) 214 (.slice (some ⟨g0,0,none⟩) m0 cap0) f n x (-1) (-e)):=hL.undrew;clear hL)
    all_goals
     go_wp2_with fail;go_meet
    all_goals
     case rel=>exact HL.out
   case rest =>
    obtain ⟨W3,hwx⟩:∃ wx,wx=wc:=⟨_,rfl⟩;subst hwx;obtain ⟨⟨v0',m0',c0',H1,H2',H3,H4⟩,H5⟩:=hcut.out;have D1:Hid (Blk W3 p ((fcells e n lr' lf' mr' mf' (.slice (some ⟨g0,0,none⟩) m0 cap0) (.slice (some ⟨g1,0,none⟩) m1 cap1)).setIfInBounds (6+1) v0') 214):=H1;have D2:Hid _:=H2';have D3:Hid _:=H3;have D4:Hid _:=H4;have D5:Hid _:=H5;have B83:Hid (Bx W3 b8 231 (.int .u64 x) (.int .i64 ((n:Int)+e))):=B82.out.gs' H5 (fun r=>by
     rcases r with r | r
     ·have:b8=p:=r
      omega
     ·have r':some g0=some b8:=r
      have:=OW.out.1.1
      simp at r';omega)
    have O13:Hid (W3.ownsRow 0 231 2 (.slice (some ⟨g1,0,none⟩) m1 cap1) m1 (pcells f c1 e m1)):=own_keep O12.out fun q hq=>(by
     have hq2:=(O12.out.lt q hq).2;cases hq;exact H5.block _ hq2 (fun r=>by
      rcases r with r | r
      ·exact OW.out.2.1.2 r
      ·cases r
       exact OW.out.2.2 rfl))
    clear H1 H2' H3 H4 H5 hcut LA d0 d1;have LA:Hid (∀ W,Gw W3 W->Calls prog 158 #[.pointer (some ⟨p,8,none⟩),.agg #[.int .u64 x,.int .i64 ((n:Int)+e)]] W fun ex w'=>ex=.returned (.tuple #[])/\Laid W w' p 8 ((fcells e n lr' lf' mr' mf' (.slice (some ⟨g0,0,none⟩) m0 cap0) (.slice (some ⟨g1,0,none⟩) m1 cap1)).setIfInBounds (6+1) v0') 214 (.slice (some ⟨g1,0,none⟩) m1 cap1) f n x 1 e):=fun W G =>
     lay_more (o:=8) (s:=1) (h:=e) KB'.out hn (.inl rfl) (by omega) (by omega) x HX.out x1 (D1.out.gw G) rfl rfl (own_keep O13.out fun q hq=>G.below.block q (O13.out.lt q hq).2) OW.out.2.1.2 (HFT.out.ch1 hn)
    have d0:=B83.out.c0;have d1:=B83.out.c1;go_wp2_with fail;go_cut [] (fun wc=>Aside (Laid W3 wc p 8 ((fcells e n lr' lf' mr' mf' (.slice (some ⟨g0,0,none⟩) m0 cap0) (.slice (some ⟨g1,0,none⟩) m1 cap1)).setIfInBounds (6+1) v0') 214 (.slice (some ⟨g1,0,none⟩) m1 cap1) f n x (1) (e)))
    case first =>
     go_region_with (go_at_call 158;refine (LA.out _ ((Gw.refl _).drew)).mono ?_;rintro ex w8 ⟨rfl,hL⟩;have HL:Hid (Laid W3 w8 p 8 ((fcells e n lr' lf' mr' mf' (.slice (some ⟨g0,0,none⟩) m0 cap0) (.slice (some ⟨g1,0,none⟩) m1 cap1)).setIfInBounds (6+1) v0') 214 (.slice (some ⟨g1,0,none⟩) m1 cap1) f n x (1) (e)):=hL.undrew;clear hL)
     all_goals
      go_wp2_with fail;go_meet
     all_goals
      case rel=>exact HL.out
    case rest =>
     obtain ⟨W4,hwx⟩:∃ wx,wx=wc:=⟨_,rfl⟩;subst hwx;obtain ⟨⟨v1',m1',c1',H1,H2',H3,H4⟩,H5⟩:=hcut.out;have FIN:Hid ((∃ S',HFit (W4.setCell ⟨p,1,none⟩ (.int .i64 ((n:Int)+1))) p S' e (n+1) (upd f n x)/\∀ q,S' q->FitS p (.slice (some ⟨g0,0,none⟩) m0 cap0) (.slice (some ⟨g1,0,none⟩) m1 cap1) q\/w.heap.size<=q)/\Gs (FitS p (.slice (some ⟨g0,0,none⟩) m0 cap0) (.slice (some ⟨g1,0,none⟩) m1 cap1)) w (W4.setCell ⟨p,1,none⟩ (.int .i64 ((n:Int)+1)))):=by
      refine fit_done (n:=n) (fun q hq=>by cases hq;exact OW.out.1) (fun q hq=>by cases hq;exact OW.out.2.1) (fun q hq hr=>by cases hq;cases hr;exact OW.out.2.2 rfl) lp GA.out D5.out D2.out D4.out D3.out H5 H2' H4 H3 H1 (up_upd KB'.out.up (fun _=>HX.out)) (fun i hi=>?_) SL.out.1 SL.out.2.1 FI.out ⟨e1,e2⟩ SL.out.2.2
      by_cases hin:i=n
      ·rw [hin,upd_at]
       exact ⟨x0,x1⟩
      ·rw [upd_lo (by omega)]
       exact KB'.out.bd i (by omega)
     have q1:W4.cell? ⟨p,1,none⟩=some (.int .i64 n):=H1.cell rfl;have q2:=H1.fz 1;have q3:IntKind.i64.wrap ((n:Int)+1)=(n:Int)+1:=by rw [IntKind.wrap_i64];omega
     clear H1 H2' H3 H4 H5 hcut D1 D2 D3 D4 D5 LA d0 d1;go_wp2_with fail;go_ret2;exact ⟨true,rfl,⟨fun _=>FI.out,fun _=>rfl⟩,(fun q=>Bool.noConfusion q),fun _=>FIN.out⟩
theorem hadd {w:World} {p:Nat} {S:Nat->Prop} {e:Int} {n:Nat} {f:Nat->Int} (h:HFit w p S e n f) (x:Int) (x0:0<=x) (x1:x<18446744073709551616) (hn:n<=3000000) :
  Calls prog 143 #[.pointer (some ⟨p,0,none⟩),.int .u64 x] w fun ex w' =>
   (∃ (ok:Bool) (err:Int) (S':Nat->Prop),ex=.returned (.tuple #[.bool ok,.int .i64 err])/\AddR e n f x ok err/\HFit w' p S' e (if ok then n+1 else n) (if ok then upd f n x else f)/\∀ q,S' q->S q\/w.heap.size<=q)/\Gs S w w':=by
 have hk:=h;obtain ⟨v0,v1,lr,lf,mr,mf,m0,m1,c0,c1,F,hS⟩:=h;have KEEP:∀ w',Gw w w'->HFit w' p S e n f:=fun w' G=>hk.keep fun q hq=>G.below.block q (hk.lt q hq)
 have GS:∀ w',Gs (FitS p v0 v1) w w'->Gs S w w':=fun w' g=>⟨g.os,g.tape,g.output,g.size,fun q hq hs=>g.block q hq (fun r=>hs ((hS q).2 r))⟩
 by_cases hx:0<n/\x<=f (n-1)
 ·refine (hadd_back F x x0 x1 hn hx.1 hx.2).mono ?_
  rintro ex w' ⟨rfl,g⟩;exact ⟨⟨false,40,S,rfl,.inl ⟨hx.1,hx.2,rfl,rfl⟩,KEEP w' g,fun q hq=>.inl hq⟩,g.gs S⟩
 ·by_cases hz:n=0
  ·subst hz
   refine (hadd_first F x x0 x1).mono ?_;rintro ex w' ⟨rfl,⟨S',hF,hsub⟩,g⟩;refine ⟨⟨true,0,S',rfl,.inr ⟨hx,rfl,⟨fun _=>?_,fun _=>rfl⟩⟩,hF,fun q hq=>?_⟩,GS w' g⟩
   ·intro i j i' j' s
    have:=s.1;have:=s.2;omega
   ·rcases hsub q hq with r | r
    ·exact .inl ((hS q).2 r)
    ·exact .inr r
  ·have hx':f (n-1)<x:=by
    rcases Int.lt_or_le (f (n-1)) x with q | q
    ·exact q
    ·exact absurd ⟨by omega,q⟩ hx
   refine (hadd_more F x x0 x1 hn (by omega) hx').mono ?_
   rintro ex w' ⟨ok,rfl,h1,h2,h3⟩;cases ok with
   | false=>exact ⟨⟨false,0,S,rfl,.inr ⟨hx,rfl,h1⟩,KEEP w' (h2 rfl),fun q hq=>.inl hq⟩,(h2 rfl).gs S⟩
   | true =>
    obtain ⟨⟨S',hF,hsub⟩,g⟩:=h3 rfl;refine ⟨⟨true,0,S',rfl,.inr ⟨hx,rfl,h1⟩,hF,fun q hq=>?_⟩,GS w' g⟩
    rcases hsub q hq with r | r
    ·exact .inl ((hS q).2 r)
    ·exact .inr r
theorem hullc:HullC HFit where
 keep:=HFit.keep
 lt:=HFit.lt
 ext:=HFit.ext
 facts:=HFit.facts
 bad:=hnew_bad
 new:=hnew_ok
 add:=hadd
 least:=hleast
end Go.Proofs.YtemijdhemdhclaaGreat
