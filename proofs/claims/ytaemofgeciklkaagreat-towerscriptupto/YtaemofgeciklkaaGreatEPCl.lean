import Derived.Deep.AppendLies
import Derived.Deep.RegionLaw
import Derived.Test.YtaemofgeciklkaaGreatER4Add
import Derived.Test.YtaemofgeciklkaaGreatEPCt
set_option linter.unusedVariables false
set_option maxHeartbeats 16000000
set_option maxRecDepth 10000
open Go.Proofs.Tryz
namespace Go.Proofs.YtaemofgeciklkaaGreat
open Go.RowKit
def cu (w:World) (p:Nat) (B:Array Value) (t:TypeId):Prop:=w.heap[p]?=some (.cells B t (0,0))
variable {w:World} {p:Nat} {B:Array Value} {t:TypeId}
theorem cu.lt (h:cu w p B t):p<w.heap.size:=(qab.1 h).1
variable {o:Nat} {v:Value}
theorem cu.cell (h:cu w p B t) (hv:B[o]?=some v):w.cell? (φ p o)=some v:=by unfold cu at h;simp [World.cell?,h,hv]
theorem cu.fz (h:cu w p B t) (o:Nat):w.frozen? (φ p o)=false:=by unfold cu at h;simp [World.frozen?,h]
variable {w':World}
theorem cu.gw (h:cu w p B t) (g:Gw w w'):cu w' p B t:=(g.below.block p h.lt).trans h
theorem cu.set (h:cu w p B t) (o:Nat) (v:Value):cu (w.setCell (φ p o) v) p (B.setIfInBounds o v) t:=by unfold cu at h ⊢;simp [World.setCell,Array.getElem?_modify,h]
def bT (f:Nat->Int) (c:Nat->Nat) (h:Int):Nat->List Value
 | 0=>[]
 | m+1=>bT f c h m++[BY (f (c m)),By ((c m:Int)+h)]
theorem zX (f:Nat->Int) (c:Nat->Nat) (h:Int) (m:Nat):(bT f c h m).length=m*2:=by
 induction m with
 | zero=>rfl
 | succ m ih=>simp [bT,ih];omega
variable {m:Nat}
theorem age (f:Nat->Int) (c:Nat->Nat) (h:Int) {k:Nat} (hk:k<=m):(bT f c h m).take (k*2)=bT f c h k:=by
 induction m with
 | zero =>
      have:k=0:=ω
      subst this;rfl
 | succ m ih =>
  by_cases e:k=m+1
  ·subst e
   rw [<-zX f c h (m+1)];exact List.take_length
  ·have:=ih ω
   rw [bT,List.take_append_of_le_length (by rw [zX];omega)]
   exact this
theorem WH (f:Nat->Int) (c:Nat->Nat) (h:Int) {i:Nat} (hi:i<m):(bT f c h m)[i*2]?=some (BY (f (c i)))/\(bT f c h m)[i*2+1]?=some (By ((c i:Int)+h)):=by
 induction m with
 | zero=>omega
 | succ m ih =>
  by_cases e:i=m
  ·subst e
   have l:=zX f c h i;constructor
   ·rw [bT,qaZ ω,l];simp
   ·rw [bT,qaZ ω,l];simp
  ·obtain ⟨h1,h2⟩:=ih ω
   have l:=zX f c h m;constructor
   ·rw [bT,qau ω];exact h1
   ·rw [bT,qau ω];exact h2
variable {f:Nat->Int} {c:Nat->Nat}
theorem KH {f':Nat->Int} {c':Nat->Nat} (h:Int) (e:∀ i,i<m->f (c i)=f' (c' i)/\c i=c' i):bT f c h m=bT f' c' h m:=by
 induction m with
 | zero=>rfl
 | succ m ih =>
  obtain ⟨e1,e2⟩:=e m ω;rw [bT,bT,ih (fun i hi=>e i ω),e1,e2]
variable {base g cap:Nat} {h:Int}
theorem KO (own:w.ownsRow base 284 2 (ψ g 0 m cap) m (bT f c h m)):PS w g m (fun i=>f (c i)) (fun i=>(c i:Int)+h):=by
 have C:=own.cells (g:=g) rfl;refine ⟨(own.lt g rfl).2,fun i hi=>?_,fun i hi=>?_⟩
 ·have:=C (i*2) _ (WH f c h hi).1
  rw [Addr.add_lit] at this;simpa using this
 ·have:=C (i*2+1) _ (WH f c h hi).2
  rw [Addr.add_lit] at this;simpa using this
theorem agf {k:Nat} (own:w.ownsRow base 284 2 (ψ g 0 m cap) m (bT f c h m)) (hk:k<=m):w.ownsRow base 284 2 (ψ g 0 k cap) k (bT f c h k):=by
 refine ⟨zX f c h k,?_⟩;rcases own.2 with ⟨q,_⟩ | ⟨g',gH,cur,ev,hb,hh,xz,Pc,cF,htk⟩
 ·cases q
 ·cases ev
  refine .inr ⟨g,cap,cur,rfl,hb,hh,ω,Pc,cF,?_⟩;rw [<-age f c h hk,<-htk,List.take_take];congr 1;omega
variable {xs:List Value}
theorem agh (own:w.ownsRow base 284 2 (ψ g 0 m cap) m xs):m<=cap:=by
 rcases own.2 with ⟨q,_⟩ | ⟨g',gH,cur,ev,hb,hh,xz,_⟩
 ·cases q
 ·cases ev;exact xz
variable {n:Nat}
theorem lO {e size:Nat} (own:w.ownsRow base e size v n xs) (k:∀ q,v.ownBlock=some q->w'.heap[q]?=w.heap[q]?):w'.ownsRow base e size v n xs:=by
 refine ⟨own.1,?_⟩;rcases own.2 with q | ⟨g,cap,cur,rfl,hb,hh,r⟩
 ·exact .inl q
 ·exact .inr ⟨g,cap,cur,rfl,hb,(k g rfl).trans hh,r⟩
theorem WJ:(prog.info? 284).map (fun i=>(i.zero,i.size,i.bytes))=some (some (.agg #[BY 0,By 0]),2,16):=η
structure iQ (w wc:World) (p o:Nat) (B:Array Value) (T:TypeId) (v:Value) (m:Nat) (xs:List Value) (x y:Int):Prop where
 blk:cu wc p B T
 bo:B[o+1]?=some v
 own:wc.ownsRow 0 284 2 v m xs
 ne:v.ownBlock≠some p
 bx:Bx wc w.heap.size 284 (BY x) (By y)
 ml:m<=4000000
variable {wc:World} {T:TypeId} {x y:Int}
theorem iQ.own1 (M:iQ w wc p o B T v m xs x y):(wc.drew.alloc (.cells #[BY x,By y] 284)).ownsRow 0 284 2 v m xs :=
 lO M.own fun q hq=>qap wc.drew _ (M.own.lt q hq).2
theorem iQ.news (M:iQ w wc p o B T v m xs x y):∀ j u,[Value.int .u64 x,By y][j]?=some u->(wc.drew.alloc (.cells #[BY x,By y] 284)).cell? ((⟨wc.heap.size,0,none⟩:Addr).add j)=some u:=by have hb:(wc.drew.alloc (.cells #[BY x,By y] 284)).heap[wc.heap.size]?=some (.cells #[BY x,By y] 284 (0,0)):=Ω wc.drew _;exact World.news_of_block hb
variable {w7:World}
theorem iQ.after (M:iQ w wc p o B T v m xs x y) (g:(wc.drew.alloc (.cells #[BY x,By y] 284)).grownBy w7 v.ownBlock):cu w7 p B T:=by
 have l:=M.blk.lt;refine (g.block p ζ (fun q=>M.ne q.symm)).trans ?_
 exact (qap wc.drew _ l).trans M.blk
variable {v0:Value}
theorem iQ.gs (M:iQ w wc p o B T v m xs x y) (G:Gs (fun q=>q=p\/v0.ownBlock=some q) w wc) (hv:v.ownBlock=v0.ownBlock) (g:(wc.drew.alloc (.cells #[BY x,By y] 284)).grownBy w7 v.ownBlock) (u:Value):Gs (fun q=>q=p\/v0.ownBlock=some q) w (w7.setCell (φ p (o+1)) u):=by
 refine Gs.set ?_ (.inl rfl) _ _;have G1:Gs (fun q=>q=p\/v0.ownBlock=some q) w (wc.drew.alloc (.cells #[BY x,By y] 284)) :=
  ⟨G.os,G.tape,G.output,by have:=G.size;simp;omega,fun q hq hs=>(qap wc.drew _ (show q<wc.heap.size by have:=G.size;omega)).trans (G.block q hq hs)⟩
 exact G1.grown g (fun k hk=>.inr (by rw [<-hv];exact hk))
theorem WK (x y:Int):∀ u∈[Value.int .u64 x,By y],u.oneCell'=true:=by
 intro u hu;rcases qaf.1 hu with rfl | hu
 ·rfl
 ·rcases qaf.1 hu with rfl | hu
  ·rfl
  ·cases hu
theorem iQ.len1 (M:iQ w wc p o B T v m xs x y):m+1<=maxLen:=by have:=M.ml;simp [maxLen];omega
theorem iQ.len2 (M:iQ w wc p o B T v m xs x y):(m+1)*16<=140737488355328:=by have:=M.ml;omega
def Laid (w w':World) (p o:Nat) (B:Array Value) (T:TypeId) (v:Value) (f:Nat->Int) (n:Nat) (x s h:Int):Prop :=
 (∃ v' m' c',cu w' p (B.setIfInBounds (o+1) v') T/\w'.ownsRow 0 284 2 v' m' (bT (aG f n x) c' h m')/\dJ (aG f n x) (fun j=>s*(j:Int)) (n+1) m' c'/\(∀ q,v'.ownBlock=some q->(v.ownBlock=some q\/w.heap.size<=q)/\q≠p))/\Gs (fun q=>q=p\/v.ownBlock=some q) w w'
variable {s:Int}
theorem WL {B2:Array Value} {c':Nat->Nat} (M:iQ w wc p o B2 T v m xs x y) (G:Gs (fun q=>q=p\/v0.ownBlock=some q) w wc) (hv:v.ownBlock=v0.ownBlock)
  (q1:w7.ownsRow 0 284 2 (ψ g 0 (m+1) cap) (m+1) (xs++[BY x,By y])) (q2:(wc.drew.alloc (.cells #[BY x,By y] 284)).grownBy w7 v.ownBlock) (q3:v.ownBlock=some g\/g=(wc.drew.alloc (.cells #[BY x,By y] 284)).heap.size)
  (hc:dJ (aG f n x) (fun j=>s*(j:Int)) (n+1) (m+1) c') (hp:xs++[BY x,By y]=bT (aG f n x) c' h (m+1)) (hB:∀ u,B2.setIfInBounds (o+1) u=B.setIfInBounds (o+1) u) :
  Laid w (w7.setCell (φ p (o+1)) (ψ g 0 (m+1) cap)) p o B T v0 f n x s h:=by
 have B7:=M.after q2;have gp:g≠p:=by
  rcases q3 with r | r
  ·intro e;rw [e] at r;exact M.ne r
  ·have:=M.blk.lt;simp at r;omega
 refine ⟨⟨ψ g 0 (m+1) cap,m+1,c',?_,?_,hc,?_⟩,M.gs G hv q2 _⟩
 ·rw [<-hB];exact B7.set _ _
 ·rw [<-hp]
  refine lO q1 fun q hq=>?_
  cases hq
  exact qac _ _ _ _ gp
 ·intro q hq
  cases hq
  refine ⟨?_,gp⟩;rcases q3 with r | r
  ·exact .inl (by rw [<-hv];exact r)
  ·right
   have:=G.size
   simp at r;show w.heap.size<=g;omega
theorem agi {w4:World} {t:Nat} (F1:cu w4 p B T) (F2:Bx w4 w.heap.size 284 (BY x) (By y)) (F3:w4.ownsRow 0 284 2 (ψ g 0 m cap) m (bT f c h m)) (tm:t<m) (m4:m<=4000000) (gp:g≠p) (bo:∀ u:Value,(B.setIfInBounds (o+1) u)[o+1]?=some u) (lp:p<w.heap.size) :
  iQ w (w4.setCell (φ p (o+1)) (ψ g 0 (t+1) cap)) p o (B.setIfInBounds (o+1) (ψ g 0 (t+1) cap)) T (ψ g 0 (t+1) cap) (t+1) (bT f c h (t+1)) x y :=
 ⟨F1.set _ _,bo _,lO (agf F3 ω) (fun q hq=>by cases hq;exact qac _ _ _ _ gp),(fun q=>by cases q;exact gp rfl),F2.far _ ω,ω⟩
theorem WM (h0:-63<=h) (h1:h<=63) (x:Int) (x0:0<=x) (x1:x<18446744073709551616)
  (hb:cu w p B T) (uD:B[o+1]?=some (.slice none 0 0)) :
  Calls prog 214 #[.pointer (some (φ p o)),.agg #[BY x,By h]] w fun e w'=>e=π #[]/\Laid w w' p o B T (.slice none 0 0) f 0 x s h:=by
 have M:iQ w (w.alloc (.cells #[BY x,By h] 284)) p o B T (.slice none 0 0) 0 [] x h :=
  ⟨hb.gw ((Gw.refl w).alloc _ _),uD,qaL _ _ _ _,by simp [Value.ownBlock],Bx.new _ _ _ _,ω⟩
 have G0:Gs (fun q=>q=p\/(Value.slice none 0 0).ownBlock=some q) w (w.alloc (.cells #[BY x,By h] 284)):=((Gw.refl w).alloc _ _).gs _
 have PC:ag ([]++[BY x,By h]=bT (aG f 0 x) (fun _=>0) h (0+1)):=by show _=[]++[Value.int .u64 (aG f 0 x 0),By (((0:Nat):Int)+h)];rw [eF];simp
 have c1:=hb.cell uD;have lp:=hb.lt;obtain ⟨ii,aK,hz,hs,aJ⟩:=info_parts WJ;clear hb;go_enter func214,ntmps214;go_wp2_with fail;generalize w.alloc (.cells #[BY x,By h] 284)=wc at M G0 ⊢;clear c1;have M':ag _:=M;have G':ag _:=G0;have d1:=M'.o.blk.cell M'.o.bo;have d2:=M'.o.bx.c0;have d3:=M'.o.bx.c1;have d4:=M'.o.blk.fz (o+1);have d5:=M'.o.blk.lt;have KQ:ag _:=WK x (h);clear M G0;go_region_law (refine step_append_lies _ rfl (.tmp 26) (.tmp 28) 259 rfl 0 284 ii _ 2 16 underlying259 aK hz hs aJ rfl γ (.slice none 0 0) (0) ([]) κ M'.o.own1 ⟨wc.heap.size,0,none⟩ 1 1 [BY x,By (h)] κ rfl M'.o.news KQ.o γ (M'.o.len1) (M'.o.len2) ω _ rfl ?_;intro g' gH w7 q1 q2 q3 q4;have B7:ag (cu w7 p (B) T):=M'.o.after q2;have e1:=B7.o.cell M'.o.bo;have e2:=B7.o.fz (o+1);have aD:ag (Laid w (w7.setCell (φ p (o+1)) (ψ g' 0 (0+1) gH)) p o B T (Value.slice none 0 0) f (0) x s h):=(WL M'.o G'.o rfl q1 q2 q3 (af3 _ _) PC.o (fun _=>rfl));clear q1 q2 q3)
 all_goals
  clear d1 d2 d3 d4 d5;go_wp2;go_end0;exact ⟨rfl,aD.o⟩
theorem WO (kb:KB f n) (hn:0<n) (eI:s=1\/s=-1) (h0:-63<=h) (h1:h<=63) (x:Int) (hx:f (n-1)<x) (x1:x<18446744073709551616)
  (hb:cu w p B T) (hB0:B[o]?=some (By s)) (uD:B[o+1]?=some (ψ g 0 m cap)) (own:w.ownsRow 0 284 2 (ψ g 0 m cap) m (bT f c h m)) (gp:g≠p) (ch:dJ f (fun j=>s*(j:Int)) n m c) :
  Calls prog 214 #[.pointer (some (φ p o)),.agg #[BY x,By ((n:Int)+h)]] w fun e w'=>e=π #[]/\Laid w w' p o B T (ψ g 0 m cap) f n x s h:=by
 have nl:=kb.len;have CC:CH w p o g m cap s h f n c:=⟨hb.lt,hb.cell hB0,hb.cell uD,KO own,ch⟩;have TA:ag (∀ W,Gw w W->Calls prog 228 #[.pointer (some (φ p o)),.agg #[BY x,By ((n:Int)+h)]] W fun e w'=>(∃ t:Nat,e=χ (By t)/\kL f (fun j=>s*(j:Int)) m c x (s*(n:Int)) t)/\Gw W w'):=by
  show ∀ W,Gw w W->Calls prog 228 #[.pointer (some (φ p o)),.agg #[BY x,By ((n:Int)+h)]] W fun e w'=>(∃ t:Nat,e=χ (By t)/\kL f (fun j=>s*(j:Int)) m c x (s*(n:Int)) t)/\Gw W w'
  intro W G;have:=WC kb eI h0 h1 x ((n:Int)+h) hx x1 ω ω W (CC.gw G);rw [show (n:Int)+h-h=n by omega] at this
  exact this
 have ML:=agh own;have m4:m<=4000000:=by have:=ch.len;omega
 have m0:0<m:=ch.pos;have FX:ag (∀ W,Gw (w.alloc (.cells #[BY x,By ((n:Int)+h)] 284)) W->cu W p B T/\Bx W w.heap.size 284 (BY x) (By ((n:Int)+h))/\W.ownsRow 0 284 2 (ψ g 0 m cap) m (bT f c h m)/\Gw w W):=by intro W G;have G1:=((Gw.refl w).alloc #[BY x,By ((n:Int)+h)] 284).trans G;exact ⟨hb.gw G1,(Bx.new _ _ _ _).gw G,lO own fun q hq=>G1.below.block q (own.lt q hq).2,G1⟩
 have WQ:ag (∀ t,kL f (fun j=>s*(j:Int)) m c x (s*(n:Int)) t->dJ (aG f n x) (fun j=>s*(j:Int)) (n+1) (t+1+1) (nY c (t+1) n)/\bT f c h (t+1)++[BY x,By ((n:Int)+h)]=bT (aG f n x) (nY c (t+1) n) h (t+1+1)):=by
  intro t ht;refine ⟨ch.lay kb.up hx ht,?_⟩;have e:bT (aG f n x) (nY c (t+1) n) h (t+1+1)=bT (aG f n x) (nY c (t+1) n) h (t+1)++[BY (aG f n x (nY c (t+1) n (t+1))),By ((nY c (t+1) n (t+1):Int)+h)]:=rfl;rw [e,Wp,eF];congr 1;refine KH h fun i hi=>?_
  have tl:=ht.lt;have bd:=ch.bd (show i<m by omega)
  rw [Wr hi,bJ bd];exact ⟨rfl,rfl⟩
 have BO:ag (∀ u:Value,(B.setIfInBounds (o+1) u)[o+1]?=some u):=by intro u;have:o+1<B.size:=(qab.1 uD).1;simp [this]
 have c1:=hb.cell uD;have lp:=hb.lt;have f1:=hb.fz (o+1);obtain ⟨ii,aK,hz,hs,aJ⟩:=info_parts WJ;have HH:ag (prog.info? 284=some ii/\ii.zero=some (.agg #[BY 0,By 0])/\ii.size=2/\ii.bytes=16):=⟨aK,hz,hs,aJ⟩;clear hb CC own ch aK hz hs aJ kb;go_enter func214,ntmps214;go_wp2_with fail;go_cut [] (fun wc=>∃ t:Nat,ag (kL f (fun j=>s*(j:Int)) m c x (s*(n:Int)) t)/\ag (iQ w wc p o (B.setIfInBounds (o+1) (ψ g 0 (t+1) cap)) T (ψ g 0 (t+1) cap) (t+1) (bT f c h (t+1)) x ((n:Int)+h))/\ag (Gs (fun q=>q=p\/(Value.slice (some (φ g 0)) m cap).ownBlock=some q) w wc))
 case first =>
  go_region_with (go_at_call 228;refine (TA.o _ ((Gw.refl w).alloc _ _).drew).mono ?_;rintro e w4 ⟨⟨t,rfl,ht⟩,g4⟩;obtain ⟨F1,F2,F3,F4⟩:=FX.o w4 ((Gw.drew (Gw.refl _)).trans g4);have j1:=F1.cell uD;have j2:=F1.fz (o+1);have j5:(t:Int)+1<=cap:=(by have:=ht.lt;omega);have j6:IntKind.i64.wrap ((t:Int)+1)=(t:Int)+1:=(by rw [Δ];have:=ht.lt;omega);have j7:0<=(t:Int)+1:=ω;have RR:ag (iQ w (w4.setCell (φ p (o+1)) (ψ g 0 (t+1) cap)) p o (B.setIfInBounds (o+1) (ψ g 0 (t+1) cap)) T (ψ g 0 (t+1) cap) (t+1) (bT f c h (t+1)) x ((n:Int)+h)):=(agi F1 F2 F3 ht.lt m4 gp BO.o lp);have GG:ag (Gs (fun q=>q=p\/(Value.slice (some (φ g 0)) m cap).ownBlock=some q) w (w4.setCell (φ p (o+1)) (ψ g 0 (t+1) cap))):=((F4.gs _).set (.inl rfl) _ _);have rH:ag (kL f (fun j=>s*(j:Int)) m c x (s*(n:Int)) t):=ht;clear F1 F2 F3 F4 ht g4)
  all_goals
   clear j1 j2 j5 j6 j7 c1 f1;go_wp2_with fail;go_meet
   case rel=>exact ⟨t,rH.o,RR.o,GG.o⟩
 case rest =>
  obtain ⟨wx,fY⟩:=qbs wc;subst fY;obtain ⟨t,ht,M,G0⟩:=hcut;obtain ⟨aK,hz,hs,aJ⟩:=HH.o;clear c1 f1;go_wp2_with fail;have BE:ag (∀ u,(B.setIfInBounds (o+1) (ψ g 0 (t+1) cap)).setIfInBounds (o+1) u=B.setIfInBounds (o+1) u):=fun u=>ε
  generalize B.setIfInBounds (o+1) (ψ g 0 (t+1) cap)=B2 at M BE;have M':ag _:=M;have G':ag _:=G0;have d1:=M'.o.blk.cell M'.o.bo;have d2:=M'.o.bx.c0;have d3:=M'.o.bx.c1;have d4:=M'.o.blk.fz (o+1);have d5:=M'.o.blk.lt;have KQ:ag _:=WK x ((n:Int)+h);clear M G0;go_region_law (refine step_append_lies _ rfl (.tmp 26) (.tmp 28) 259 rfl 0 284 ii _ 2 16 underlying259 aK hz hs aJ rfl γ (ψ g 0 (t+1) cap) (t+1) (bT f c h (t+1)) κ M'.o.own1 ⟨wx.heap.size,0,none⟩ 1 1 [BY x,By ((n:Int)+h)] κ rfl M'.o.news KQ.o γ (M'.o.len1) (M'.o.len2) ω _ rfl ?_;intro g' gH w7 q1 q2 q3 q4;have B7:ag (cu w7 p (B2) T):=M'.o.after q2;have e1:=B7.o.cell M'.o.bo;have e2:=B7.o.fz (o+1);have aD:ag (Laid w (w7.setCell (φ p (o+1)) (ψ g' 0 (t+1+1) gH)) p o B T (Value.slice (some (φ g 0)) m cap) f (n) x s h):=(WL M'.o G'.o rfl q1 q2 q3 (WQ.o t ht.o).1 (WQ.o t ht.o).2 BE.o);clear q1 q2 q3)
  all_goals
   clear d1 d2 d3 d4 d5;go_wp2;go_end0;exact ⟨rfl,aD.o⟩
theorem agj (u v:Int):bN u v<0↔u<v:=by
 unfold bN;split
 ·simp [*]
 ·split<;>simp<;>omega
theorem WT (u v:Int):0<bN u v↔v<u:=by
 unfold bN;split
 ·simp;omega
 ·split<;>simp<;>omega
def PL (e:Int) (f:Nat->Int) (n:Nat) (x xa ya:Int):Prop:=∃ t,t<n/\xa=f t/\ya=(t:Int)+e/\∀ j,j<n->((n:Int)-j-2*e)*(x-f t)<=((n:Int)-t-2*e)*(x-f j)
def PT (e:Int) (f:Nat->Int) (n:Nat) (x xa ya:Int):Prop:=∃ t,t<n/\xa=f t/\ya=(t:Int)-e/\∀ j,j<n->((n:Int)-t+2*e)*(x-f j)<=((n:Int)-j+2*e)*(x-f t)
variable {e:Int}
theorem PL.bd {xa ya:Int} (h:PL e f n x xa ya) (kb:KB f n) (hx:f (n-1)<x) (e1:1<=e) (e2:e<=63):0<=xa/\xa<x/\-10000000<=ya/\ya<=10000000:=by
 obtain ⟨t,ht,rfl,rfl,_⟩:=h;have b1:=kb.bd t ht;have b2:=kb.up.le (show t<=n-1 by omega) ω
 have b3:=kb.len;omega
theorem PT.bd {xa ya:Int} (h:PT e f n x xa ya) (kb:KB f n) (hx:f (n-1)<x) (e1:1<=e) (e2:e<=63):0<=xa/\xa<x/\-10000000<=ya/\ya<=10000000:=by
 obtain ⟨t,ht,rfl,rfl,_⟩:=h;have b1:=kb.bd t ht;have b2:=kb.up.le (show t<=n-1 by omega) ω
 have b3:=kb.len;omega
theorem agk (kb:KB f n) (hn:0<n) (e1:1<=e) (e2:e<=63) (x:Int) (hx:f (n-1)<x) (x1:x<18446744073709551616) (k:CH w p 8 g m cap 1 e f n c) :
  Calls prog 226 #[.pointer (some (φ p 8)),.agg #[BY x,By ((n:Int)-e)]] w fun ex w'=>(∃ xa ya:Int,ex=χ (.agg #[BY xa,By ya])/\PL e f n x xa ya)/\Gw w w':=by
 have nl:=kb.len;refine (WE kb (.inl rfl) ω e2 x ((n:Int)-e) hx x1 ω ω w k).mono ?_;rintro ex w' ⟨⟨t,rfl,ht⟩,G⟩;rw [show (n:Int)-e-e=n-2*e by omega] at ht
 exact ⟨⟨_,_,rfl,c t,k.ch.bd ht.lt,rfl,rfl,af7 k.ch kb.up hx ht⟩,G⟩
theorem agl (kb:KB f n) (hn:0<n) (e1:1<=e) (e2:e<=63) (x:Int) (hx:f (n-1)<x) (x1:x<18446744073709551616) (k:CH w p 6 g m cap (-1) (-e) f n c) :
  Calls prog 226 #[.pointer (some (φ p 6)),.agg #[BY x,By ((n:Int)+e)]] w fun ex w'=>(∃ xa ya:Int,ex=χ (.agg #[BY xa,By ya])/\PT e f n x xa ya)/\Gw w w':=by
 have nl:=kb.len;refine (WE kb (.inr rfl) ω ω x ((n:Int)+e) hx x1 ω ω w k).mono ?_;rintro ex w' ⟨⟨t,rfl,ht⟩,G⟩;rw [show (n:Int)+e - -e=n+2*e by omega] at ht
 exact ⟨⟨_,_,rfl,c t,k.ch.bd ht.lt,rfl,ω,af8 k.ch kb.up hx ht⟩,G⟩
theorem agm (w:World) (t t':TypeId) (a0 a1 b0 b1:Value):Eb w ((w.alloc (.cells #[a0,a1] t)).alloc (.cells #[b0,b1] t')) a0 a1 b0 b1 :=
 ⟨((Gw.refl w).alloc _ _).alloc _ _,by simp [go_sem],by simp [go_sem],by simp [go_sem],by simp [go_sem],by simp [go_sem]⟩
variable {S:Nat->Prop}
theorem Gs.drew (h:Gs S w w'):Gs S w w'.drew:=⟨h.os,h.tape,h.output,h.size,h.block⟩
def dF (e:Int) (n:Nat) (lr lf mr mf:Int) (v0 v1:Value):Array Value:=#[By e,By n,By lr,BY lf,By mr,BY mf,By (-1),v0,By 1,v1]
structure SB (lr lf mr mf:Int):Prop where
 l0:0<=lr
 l1:lr<=10000000
 l2:0<=lf
 l3:lf<18446744073709551616
 m0:0<=mr
 m1:mr<=10000000
 m2:0<=mf
 m3:mf<18446744073709551616
def KT (w w':World) (p:Nat) (e:Int) (n:Nat) (f:Nat->Int) (x:Int) (v0 v1:Value) (ok:Bool):Prop :=
 (ok=true↔aY e (aG f n x) (aC (n+1)))/\(ok=false->Gw w w') /\
 (ok=true->(∃ lr lf mr mf,cu w' p (dF e n lr lf mr mf v0 v1) 264/\gK e (aG f n x) (aC (n+1)) lr lf/\gL e (aG f n x) (aC (n+1)) mr mf/\SB lr lf mr mf)/\Gs (fun q=>q=p) w w')
variable {m0 m1:Nat} {lr lf mr mf:Int} {c0 c1:Nat->Nat}
theorem agn {g0 bO g1 cY:Nat} (kb:KB f n) (hn:0<n) (zu:n<=3000000) (e1:1<=e) (e2:e<=63) (x:Int) (hx:f (n-1)<x) (x1:x<18446744073709551616)
  (hb:cu w p (dF e n lr lf mr mf (ψ g0 0 m0 bO) (ψ g1 0 m1 cY)) 264) (k0:CH w p 6 g0 m0 bO (-1) (-e) f n c0) (k1:CH w p 8 g1 m1 cY 1 e f n c1)
  (low:gK e f (aC n) lr lf) (top:gL e f (aC n) mr mf) (sb:SB lr lf mr mf) :
  Calls prog 213 #[IS p,.agg #[BY x,By ((n:Int)-e)],.agg #[BY x,By ((n:Int)+e)]] w fun ex w'=>∃ ok:Bool,ex=χ (.bool ok)/\KT w w' p e n f x (ψ g0 0 m0 bO) (ψ g1 0 m1 cY) ok:=by
 have T1:ag (∀ W,Gw w W->Calls prog 226 #[.pointer (some (φ p 8)),.agg #[BY x,By ((n:Int)-e)]] W fun ex w'=>(∃ xa ya:Int,ex=χ (.agg #[BY xa,By ya])/\PL e f n x xa ya)/\Gw W w'):=fun W G=>agk kb hn e1 e2 x hx x1 (k1.gw G)
 have T2:ag (∀ W,Gw w W->Calls prog 226 #[.pointer (some (φ p 6)),.agg #[BY x,By ((n:Int)+e)]] W fun ex w'=>(∃ xa ya:Int,ex=χ (.agg #[BY xa,By ya])/\PT e f n x xa ya)/\Gw W w'):=fun W G=>agl kb hn e1 e2 x hx x1 (k0.gw G)
 have B1:ag (∀ xa ya,PL e f n x xa ya->∀ W,Calls prog 225 #[.agg #[BY xa,By ya],.agg #[BY x,By ((n:Int)-e)]] W fun ex w'=>ex=χ (.agg #[By ((n:Int)-e-ya),BY (x-xa)])/\Gw W w'):=by intro xa ya h W;obtain ⟨q1,q2,q3,q4⟩:=h.bd kb hx e1 e2;exact Ea xa ya x _ q1 q2 x1 ω ω ω ω W
 have B2:ag (∀ xa ya,PT e f n x xa ya->∀ W,Calls prog 225 #[.agg #[BY xa,By ya],.agg #[BY x,By ((n:Int)+e)]] W fun ex w'=>ex=χ (.agg #[By ((n:Int)+e-ya),BY (x-xa)])/\Gw W w'):=by intro xa ya h W;obtain ⟨q1,q2,q3,q4⟩:=h.bd kb hx e1 e2;exact Ea xa ya x _ q1 q2 x1 ω ω ω ω W
 have HB:ag (cu w p (dF e n lr lf mr mf (ψ g0 0 m0 bO) (ψ g1 0 m1 cY)) 264):=hb;have LP:=hb.lt;have UP:ag (Up (aG f n x) (n+1)):=Fh kb.up (fun _=>hx)
 clear hb k0 k1;go_enter func213,ntmps213;go_wp2_with fail;have W0:Eb w (((w.alloc (.cells #[BY x,By ((n:Int)-e)] 284)).alloc (.cells #[BY x,By ((n:Int)+e)] 284))) (BY x) (By ((n:Int)-e)) (BY x) (By ((n:Int)+e)):=agm w _ _ _ _ _ _;have jy:ag (Eb w (((w.alloc (.cells #[BY x,By ((n:Int)-e)] 284)).alloc (.cells #[BY x,By ((n:Int)+e)] 284))) (BY x) (By ((n:Int)-e)) (BY x) (By ((n:Int)+e))):=W0;clear W0;generalize ((w.alloc (.cells #[BY x,By ((n:Int)-e)] 284)).alloc (.cells #[BY x,By ((n:Int)+e)] 284))=W at jy ⊢;have a0:=jy.o.a0;have a1:=jy.o.a1;have BF:ag (∀ w',Gw W w'->w'.cell? (φ w.heap.size 0)=some (BY x)/\w'.cell? (φ w.heap.size 1)=some (By ((n:Int)-e))):=fun w' G=>⟨(G.cell _ _ (by rw [jy.o.size];omega)).trans jy.o.a0,(G.cell _ _ (by rw [jy.o.size];omega)).trans jy.o.a1⟩
 have a2:w.heap.size+1<W.heap.size:=by rw [jy.o.size];omega
 have a3:w.heap.size<W.heap.size:=ω;go_cut [7] (fun s7 wc=>∃ (b:Nat) (xq yq:Int),s7=IS b/\ag (Bx wc b 258 (By ((n:Int)-e-yq)) (BY (x-xq)))/\ag (PL e f n x xq yq)/\ag (W.heap.size<=b)/\ag (Gw W wc))
 case first =>
  go_region_with (first
   | (go_at_call 226;refine (T1.o _ (jy.o.gw.trans ν)).mono ?_;rintro ex w4 ⟨⟨xq,yq,rfl,hP⟩,g4⟩;have G4:ag (Gw W w4):=(Gw.trans ν g4);obtain ⟨y0,y1⟩:=BF.o w4 G4.o;have y2:w.heap.size<w4.heap.size:=Θ a3 G4.o.size;have HP:ag (PL e f n x xq yq):=hP;(first | (have n4:Bx w4 W.heap.size 258 (By 0) (BY 0):=((Bx.new W 258 (By 0) (BY 0)).gw ((Gw.refl _).drew.trans g4));have N4:ag (Bx w4 W.heap.size 258 (By 0) (BY 0)):=n4;have z0:=n4.c0;have z1:=n4.c1;have z2:=n4.fz 0;have z3:=n4.fz 1;clear n4) | skip);clear g4 hP)
   | (go_at_call 225;refine (B1.o _ _ HP.o _).mono ?_;rintro ex w5 ⟨rfl,g5⟩;have G5:ag (Gw W w5):=(Gw.trans G4.o (Gw.trans ν g5));(first | (have N5:ag (Bx w5 W.heap.size 258 (By 0) (BY 0)):=(N4.o.gw g5);have KU:=N5.o.c0;have KW:=N5.o.c1;have zQ:=N5.o.fz 0;have KY:=N5.o.fz 1) | (have N5:ag (Bx w5 w4.heap.size 258 (By 0) (BY 0)):=((Bx.new w4 258 (By 0) (BY 0)).gw g5);have KU:=N5.o.c0;have KW:=N5.o.c1;have zQ:=N5.o.fz 0;have KY:=N5.o.fz 1) | skip);clear g5))
  all_goals
   go_wp2_with fail;go_meet
  all_goals
   case rel =>
    first
     | exact ⟨w5.heap.size,xq,yq,rfl,(show ag _ from Bx.new _ _ _ _),(show ag _ from HP.o),(show ag _ from G5.o.size),(show ag _ from G5.o.alloc _ _)⟩
     | exact ⟨w4.heap.size,xq,yq,rfl,(show ag _ from N5.o.set _ _),(show ag _ from HP.o),(show ag _ from G4.o.size),(show ag _ from (G5.o.setCell G4.o.size _).setCell G4.o.size _)⟩
     | exact ⟨W.heap.size,xq,yq,rfl,(show ag _ from N5.o.set _ _),(show ag _ from HP.o),(show ag _ from Yk _),(show ag _ from (G5.o.setCell (Yk _) _).setCell (Yk _) _)⟩
 case rest =>
  obtain ⟨W1,fY⟩:=qbs wc;subst fY;obtain ⟨b7,xa,ya,rfl,KZ,Ee,WV,GA⟩:=hcut;have iL:ag (Gw w W1):=jy.o.gw.trans GA.o;have Ef:ag (∀ w',Gw W1 w'->w'.cell? (φ (w.heap.size+1) 0)=some (BY x)/\w'.cell? (φ (w.heap.size+1) 1)=some (By ((n:Int)+e))):=fun w' G=>⟨((GA.o.trans G).cell _ _ (by rw [jy.o.size];omega)).trans jy.o.b0,((GA.o.trans G).cell _ _ (by rw [jy.o.size];omega)).trans jy.o.b1⟩
  have a5:w.heap.size+1<W1.heap.size:=Θ a2 GA.o.size;have a6:=(Ef.o W1 (Gw.refl W1)).1;have a7:=(Ef.o W1 (Gw.refl W1)).2;clear a0 a1 BF;go_wp2_with fail;go_cut [8] (fun s7 wc=>∃ (b:Nat) (xq yq:Int),s7=IS b/\ag (Bx wc b 258 (By ((n:Int)+e-yq)) (BY (x-xq)))/\ag (PT e f n x xq yq)/\ag (W1.heap.size<=b)/\ag (Gw W1 wc))
  case first =>
   go_region_with (first
    | (go_at_call 226;refine (T2.o _ (iL.o.trans ν)).mono ?_;rintro ex w4 ⟨⟨xq,yq,rfl,hP⟩,g4⟩;have G4:ag (Gw W1 w4):=(Gw.trans ν g4);obtain ⟨y0,y1⟩:=Ef.o w4 G4.o;have y2:w.heap.size+1<w4.heap.size:=Θ a5 G4.o.size;have HP:ag (PT e f n x xq yq):=hP;(first | (have n4:Bx w4 W1.heap.size 258 (By 0) (BY 0):=((Bx.new W1 258 (By 0) (BY 0)).gw ((Gw.refl _).drew.trans g4));have N4:ag (Bx w4 W1.heap.size 258 (By 0) (BY 0)):=n4;have z0:=n4.c0;have z1:=n4.c1;have z2:=n4.fz 0;have z3:=n4.fz 1;clear n4) | skip);clear g4 hP)
    | (go_at_call 225;refine (B2.o _ _ HP.o _).mono ?_;rintro ex w5 ⟨rfl,g5⟩;have G5:ag (Gw W1 w5):=(Gw.trans G4.o (Gw.trans ν g5));(first | (have N5:ag (Bx w5 W1.heap.size 258 (By 0) (BY 0)):=(N4.o.gw g5);have KU:=N5.o.c0;have KW:=N5.o.c1;have zQ:=N5.o.fz 0;have KY:=N5.o.fz 1) | (have N5:ag (Bx w5 w4.heap.size 258 (By 0) (BY 0)):=((Bx.new w4 258 (By 0) (BY 0)).gw g5);have KU:=N5.o.c0;have KW:=N5.o.c1;have zQ:=N5.o.fz 0;have KY:=N5.o.fz 1) | skip);clear g5))
   all_goals
    go_wp2_with fail;go_meet
   all_goals
    case rel =>
     first
      | exact ⟨w5.heap.size,xq,yq,rfl,(show ag _ from Bx.new _ _ _ _),(show ag _ from HP.o),(show ag _ from G5.o.size),(show ag _ from G5.o.alloc _ _)⟩
      | exact ⟨w4.heap.size,xq,yq,rfl,(show ag _ from N5.o.set _ _),(show ag _ from HP.o),(show ag _ from G4.o.size),(show ag _ from (G5.o.setCell G4.o.size _).setCell G4.o.size _)⟩
      | exact ⟨W1.heap.size,xq,yq,rfl,(show ag _ from N5.o.set _ _),(show ag _ from HP.o),(show ag _ from Yk _),(show ag _ from (G5.o.setCell (Yk _) _).setCell (Yk _) _)⟩
  case rest =>
   obtain ⟨W2,fY⟩:=qbs wc;subst fY;obtain ⟨b8,xb,yb,rfl,WW,WX,WY,GB⟩:=hcut;have K3:ag (Gw w W2):=iL.o.trans GB.o;have X7:ag (Bx W2 b7 258 (By ((n:Int)-e-ya)) (BY (x-xa))):=KZ.o.gw GB.o;have X8:ag (Bx W2 b8 258 (By ((n:Int)+e-yb)) (BY (x-xb))):=WW.o;have L78:b7<b8:=Θ KZ.o.lt WY.o;have WZ:w.heap.size<=b7:=Φ jy.o.gw.size WV.o;have mG:ag ((((n:Int)-e-ya)*lf<lr*(x-xa)->gK e (aG f n x) (aC (n+1)) lr lf)/\(lr*(x-xa)<=((n:Int)-e-ya)*lf->gK e (aG f n x) (aC (n+1)) ((n:Int)-e-ya) (x-xa))/\(-10000000<=(n:Int)-e-ya/\(n:Int)-e-ya<=10000000/\0<=x-xa/\x-xa<18446744073709551616)):=by
    obtain ⟨t,ht,q1,q2,q3⟩:=Ee.o;have b1:=kb.bd t ht;have b2:=kb.up.le (show t<=n-1 by omega) ω
    obtain ⟨m1,m2⟩:=af5 UP.o low ht (show (n:Int)-e-ya=(n:Int)-t-2*e by omega) (show x-xa=x-f t by rw [q1]) (fun j hj=>by rw [q1,show (n:Int)-e-ya=(n:Int)-t-2*e by omega];exact q3 j hj)
    exact ⟨m1,fun q=>m2 ω,ω,ω,ω,ω⟩
   have nZ:ag ((mr*(x-xb)<((n:Int)+e-yb)*mf->gL e (aG f n x) (aC (n+1)) mr mf)/\(((n:Int)+e-yb)*mf<=mr*(x-xb)->gL e (aG f n x) (aC (n+1)) ((n:Int)+e-yb) (x-xb))/\(0<=(n:Int)+e-yb/\(n:Int)+e-yb<=10000000/\0<=x-xb/\x-xb<18446744073709551616)):=by
    obtain ⟨t,ht,q1,q2,q3⟩:=WX.o;have b1:=kb.bd t ht;have b2:=kb.up.le (show t<=n-1 by omega) ω
    obtain ⟨m1,m2⟩:=af6 ω UP.o top ht (show (n:Int)+e-yb=(n:Int)-t+2*e by omega) (show x-xb=x-f t by rw [q1]) (fun j hj=>by rw [q1,show (n:Int)+e-yb=(n:Int)-t+2*e by omega];exact q3 j hj)
    exact ⟨m1,fun q=>m2 ω,ω,ω,ω,ω⟩
   clear KZ WW Ee WX WV WY GA GB iL Ef a5 a6 a7 jy a2 a3 T1 T2 B1 B2;generalize (n:Int)-e-ya=r7 at X7 mG;generalize x-xa=s7 at X7 mG;generalize (n:Int)+e-yb=r8 at X8 nZ;generalize x-xb=s8 at X8 nZ;have C1:ag (∀ W,Calls prog 227 #[.agg #[By r7,BY s7],.agg #[By lr,BY lf]] W fun ex w'=>ex=χ (By (bN (r7*lf) (lr*s7)))/\Gw W w'):=fun W=>(by
    have q:=mG.o.2.2;exact D6 r7 s7 lr lf ω ω ω ω (by have:=sb.l0;omega) (by have:=sb.l1;omega) sb.l2 sb.l3 W)
   have C2:ag (∀ W,Calls prog 227 #[.agg #[By r8,BY s8],.agg #[By mr,BY mf]] W fun ex w'=>ex=χ (By (bN (r8*mf) (mr*s8)))/\Gw W w'):=fun W=>(by
    have q:=nZ.o.2.2;exact D6 r8 s8 mr mf ω ω ω ω (by have:=sb.m0;omega) (by have:=sb.m1;omega) sb.m2 sb.m3 W)
   have D1:ag (bN (r7*lf) (lr*s7)<0↔r7*lf<lr*s7):=agj _ _;have D2:ag (0<bN (r8*mf) (mr*s8)↔mr*s8<r8*mf):=WT _ _;generalize bN (r7*lf) (lr*s7)=d1 at C1 D1;generalize bN (r8*mf) (mr*s8)=d2 at C2 D2;have F2:=HB.o.gw K3.o;have Ed:ag (cu W2 p (dF e n lr lf mr mf (ψ g0 0 m0 bO) (ψ g1 0 m1 cY)) 264):=F2;have K7:=F2.lt;have k0:=GX.cell X7.o.c0 X7.o.lt;have k1:=GX.cell X7.o.c1 X7.o.lt;have k2:=GX.cell (F2.cell (o:=2) (v:=By lr) rfl) K7;have k3:=GX.cell (F2.cell (o:=3) (v:=BY lf) rfl) K7;have NN:=GX.some W2;clear F2;go_wp2_with fail;refine od η η ?_
   repeat (go_big_quiet_step (fail))
   go_big_quiet_want;go_big_quiet_op
   go_big_quiet_call (exact gO (C1.o _))
   repeat (go_big_quiet_step (fail))
   refine wpQuiet_nil ?_;rintro _ ⟨gx,rfl⟩;clear k0 k1 k2 k3;obtain ⟨W3,v8⟩:=qbs gx.1;have G3:ag (Gw W2 W3):=(by rw [v8];exact gx.2);rw [<-v8];clear v8 gx;go_upto_if 31 with fail;have uE:ag (Bx W3 b7 258 (By r7) (BY s7)):=X7.o.gw G3.o;have La:ag (Bx W3 b8 258 (By r8) (BY s8)):=X8.o.gw G3.o;have Lb:ag (Gw w W3):=K3.o.trans G3.o;have F3:ag (cu W3 p (dF e n lr lf mr mf (ψ g0 0 m0 bO) (ψ g1 0 m1 cY)) 264):=Ed.o.gw G3.o;clear X7 X8 K3 Ed G3 NN K7;go_cut [] (fun wc=>∃ (ra sa:Int),ag (Bx wc b7 258 (By ra) (BY sa))/\ag (gK e (aG f n x) (aC (n+1)) ra sa/\0<=ra/\ra<=10000000/\0<=sa/\sa<18446744073709551616)/\ag (Bx wc b8 258 (By r8) (BY s8))/\ag (Gw w wc))
   case first =>
    by_cases hd:d1<0
    ·have q0:=uE.o.c0
     have q1:=uE.o.c1;have q2:=uE.o.fz 0;have q3:=uE.o.fz 1;have q4:=F3.o.cell (o:=2) (v:=By lr) rfl;have q5:=F3.o.cell (o:=3) (v:=BY lf) rfl;have LU:ag (gK e (aG f n x) (aC (n+1)) lr lf):=mG.o.1 (D1.o.1 hd);have RR:ag (Bx ((W3.setCell (φ b7 0) (By lr)).setCell (φ b7 1) (BY lf)) b7 258 (By lr) (BY lf)/\Bx ((W3.setCell (φ b7 0) (By lr)).setCell (φ b7 1) (BY lf)) b8 258 (By r8) (BY s8)/\Gw w ((W3.setCell (φ b7 0) (By lr)).setCell (φ b7 1) (BY lf))):=⟨uE.o.set _ _,(La.o.far _ ω).far _ ω,(Lb.o.setCell WZ _).setCell WZ _⟩;clear C1 C2 mG nZ D1 D2 low top kb;go_wp2_with fail;go_meet
     case rel=>exact ⟨lr,lf,(show ag _ from RR.o.1),(show ag _ from ⟨LU.o,sb.l0,sb.l1,sb.l2,sb.l3⟩),(show ag _ from RR.o.2.1),(show ag _ from RR.o.2.2)⟩
    ·have LU:ag (gK e (aG f n x) (aC (n+1)) r7 s7):=mG.o.2.1 (by have h2:¬ r7*lf<lr*s7:=fun q=>hd (D1.o.2 q);omega)
     have BB:ag (0<=r7/\r7<=10000000/\0<=s7/\s7<18446744073709551616):=⟨LU.o.a0,mG.o.2.2.2.1,mG.o.2.2.2.2⟩;clear C1 C2 mG nZ D1 D2 low top kb;go_wp2_with fail;go_meet
     case rel=>exact ⟨r7,s7,(show ag _ from uE.o),(show ag _ from ⟨LU.o,BB.o⟩),(show ag _ from La.o),(show ag _ from Lb.o)⟩
   case rest =>
    obtain ⟨W4,fY⟩:=qbs wc;subst fY;obtain ⟨ra,sa,Xa,LL,xm,Ld⟩:=hcut;have F4:ag (cu W4 p (dF e n lr lf mr mf (ψ g0 0 m0 bO) (ψ g1 0 m1 cY)) 264):=HB.o.gw Ld.o;have zY:=F4.o.lt;have k0:=GX.cell xm.o.c0 xm.o.lt;have k1:=GX.cell xm.o.c1 xm.o.lt;have k2:=GX.cell (F4.o.cell (o:=4) (v:=By mr) rfl) zY;have k3:=GX.cell (F4.o.cell (o:=5) (v:=BY mf) rfl) zY;have NN:=GX.some W4;clear uE La Lb F3;go_wp2_with fail;refine od η η ?_
    repeat (go_big_quiet_step (fail))
    go_big_quiet_want;go_big_quiet_op
    go_big_quiet_call (exact gO (C2.o _))
    repeat (go_big_quiet_step (fail))
    refine wpQuiet_nil ?_;rintro _ ⟨gx,rfl⟩;clear k0 k1 k2 k3;obtain ⟨W5,Le⟩:=qbs gx.1;have G5:ag (Gw W4 W5):=(by rw [Le];exact gx.2);rw [<-Le];clear Le gx;go_upto_if 42 with fail;have Lf:ag (Bx W5 b7 258 (By ra) (BY sa)):=Xa.o.gw G5.o;have uF:ag (Bx W5 b8 258 (By r8) (BY s8)):=xm.o.gw G5.o;have Lg:ag (Gw w W5):=Ld.o.trans G5.o;have F5:ag (cu W5 p (dF e n lr lf mr mf (ψ g0 0 m0 bO) (ψ g1 0 m1 cY)) 264):=F4.o.gw G5.o;have Xb:w.heap.size<=b8:=ω;clear Xa xm Ld F4 G5 NN zY;go_cut [] (fun wc=>∃ (rb sc:Int),ag (Bx wc b8 258 (By rb) (BY sc))/\ag (gL e (aG f n x) (aC (n+1)) rb sc/\0<=rb/\rb<=10000000/\0<=sc/\sc<18446744073709551616)/\ag (Bx wc b7 258 (By ra) (BY sa))/\ag (Gw w wc))
    case first =>
     by_cases hd:0<d2
     ·have q0:=uF.o.c0
      have q1:=uF.o.c1;have q2:=uF.o.fz 0;have q3:=uF.o.fz 1;have q4:=F5.o.cell (o:=4) (v:=By mr) rfl;have q5:=F5.o.cell (o:=5) (v:=BY mf) rfl;have LU:ag (gL e (aG f n x) (aC (n+1)) mr mf):=nZ.o.1 (D2.o.1 hd);have RR:ag (Bx ((W5.setCell (φ b8 0) (By mr)).setCell (φ b8 1) (BY mf)) b8 258 (By mr) (BY mf)/\Bx ((W5.setCell (φ b8 0) (By mr)).setCell (φ b8 1) (BY mf)) b7 258 (By ra) (BY sa)/\Gw w ((W5.setCell (φ b8 0) (By mr)).setCell (φ b8 1) (BY mf))):=⟨uF.o.set _ _,(Lf.o.far _ ω).far _ ω,(Lg.o.setCell Xb _).setCell Xb _⟩;clear C1 C2 mG nZ D1 D2 low top kb;go_wp2_with fail;go_meet
      case rel=>exact ⟨mr,mf,(show ag _ from RR.o.1),(show ag _ from ⟨LU.o,sb.m0,sb.m1,sb.m2,sb.m3⟩),(show ag _ from RR.o.2.1),(show ag _ from RR.o.2.2)⟩
     ·have LU:ag (gL e (aG f n x) (aC (n+1)) r8 s8):=nZ.o.2.1 (by have h2:¬ mr*s8<r8*mf:=fun q=>hd (D2.o.2 q);omega)
      have BB:ag (0<=r8/\r8<=10000000/\0<=s8/\s8<18446744073709551616):=nZ.o.2.2;clear C1 C2 mG nZ D1 D2 low top kb;go_wp2_with fail;go_meet
      case rel=>exact ⟨r8,s8,(show ag _ from uF.o),(show ag _ from ⟨LU.o,BB.o⟩),(show ag _ from Lf.o),(show ag _ from Lg.o)⟩
    case rest =>
     obtain ⟨W6,fY⟩:=qbs wc;subst fY;obtain ⟨rb,sc,Lh,TT,Li,xd⟩:=hcut;have Xc:sc≠0:=by
      rcases TT.o.1 with ⟨_,_,no⟩ | ⟨_,q,_⟩
      ·exact absurd ⟨hn,ω⟩ (no 0 n)
      ·omega
     have FI:ag (ra*sc<=rb*sa↔aY e (aG f n x) (aC (n+1))):=af4 ω (uZ UP.o) LL.o.1 TT.o.1 Xc;have C3:ag (∀ W,Calls prog 227 #[.agg #[By ra,BY sa],.agg #[By rb,BY sc]] W fun ex w'=>ex=χ (By (bN (ra*sc) (rb*sa)))/\Gw W w'):=fun W=>(by
      have q:=LL.o.2;have q':=TT.o.2;exact D6 ra sa rb sc ω ω ω ω ω ω ω ω W)
     have D3:ag (0<bN (ra*sc) (rb*sa)↔rb*sa<ra*sc):=WT _ _;generalize bN (ra*sc) (rb*sa)=d3 at C3 D3;have F6:ag (cu W6 p (dF e n lr lf mr mf (ψ g0 0 m0 bO) (ψ g1 0 m1 cY)) 264):=HB.o.gw xd.o;have q0:=Lh.o.c0;have q1:=Lh.o.c1;have q2:=Li.o.c0;have q3:=Li.o.c1;clear Lf uF Lg F5 C1 C2 mG nZ D1 D2 low top kb Xc;go_wp2_with fail;refine (C3.o _).mono ?_;rintro ex W7 ⟨rfl,g7⟩;have Xd:ag (Bx W7 b8 258 (By rb) (BY sc)):=Lh.o.gw g7;have Xe:ag (Bx W7 b7 258 (By ra) (BY sa)):=Li.o.gw g7;have xf:ag (Gw w W7):=xd.o.trans g7;have F7:ag (cu W7 p (dF e n lr lf mr mf (ψ g0 0 m0 bO) (ψ g1 0 m1 cY)) 264):=F6.o.gw g7;clear q0 q1 q2 q3 g7 C3;by_cases hd:0<d3
     ·have NF:ag (¬ aY e (aG f n x) (aC (n+1))):=fun q=>(by have h1:=FI.o.2 q;have h2:=D3.o.1 hd;omega)
      clear FI D3;go_wp2_with fail;go_ret;exact ⟨false,ε,⟨fun q=>Bool.noConfusion q,fun q=>absurd q NF.o⟩,fun _=>xf.o,fun q=>Bool.noConfusion q⟩
     ·have YF:ag (aY e (aG f n x) (aC (n+1))):=FI.o.1 (by have h2:¬ rb*sa<ra*sc:=fun q=>hd (D3.o.2 q);omega)
      have q0:=Xd.o.c0;have q1:=Xd.o.c1;have q2:=Xe.o.c0;have q3:=Xe.o.c1;have q4:=F7.o.cell (o:=2) (v:=By lr) rfl;have q5:=F7.o.cell (o:=3) (v:=BY lf) rfl;have q6:=F7.o.cell (o:=4) (v:=By mr) rfl;have q7:=F7.o.cell (o:=5) (v:=BY mf) rfl;have q8:=F7.o.fz 2;have q9:=F7.o.fz 3;have Fo:=F7.o.fz 4;have Fp:=F7.o.fz 5;have n7:p≠b7:=ω;have n8:p≠b8:=ω;clear FI D3;go_wp2_with fail;go_region
      all_goals
       clear q0 q1 q2 q3 q4 q5 q6 q7 q8 q9 Fo Fp;have FB:ag (cu ((((W7.setCell (φ p 2) (By ra)).setCell (φ p 3) (BY sa)).setCell (φ p 4) (By rb)).setCell (φ p 5) (BY sc)) p (dF e n ra sa rb sc (ψ g0 0 m0 bO) (ψ g1 0 m1 cY)) 264):=(((F7.o.set 2 _).set 3 _).set 4 _).set 5 _;have GB:ag (Gs (fun q=>q=p) w ((((W7.setCell (φ p 2) (By ra)).setCell (φ p 3) (BY sa)).setCell (φ p 4) (By rb)).setCell (φ p 5) (BY sc))):=((((xf.o.gs (fun q=>q=p)).set rfl _ _).set rfl _ _).set rfl _ _).set rfl _ _
       go_wp2_with fail;go_ret
       exact ⟨true,ε,⟨fun _=>YF.o,fun _=>rfl⟩,fun q=>Bool.noConfusion q,fun _=>⟨⟨ra,sa,rb,sc,FB.o,LL.o.1,TT.o.1,⟨LL.o.2.1,LL.o.2.2.1,LL.o.2.2.2.1,LL.o.2.2.2.2,TT.o.2.1,TT.o.2.2.1,TT.o.2.2.2.1,TT.o.2.2.2.2⟩⟩,GB.o.drew⟩⟩
theorem dJ.congr {X X' g:Nat->Int} (h:dJ X g n m c) (e:∀ i,i<n->X i=X' i):dJ X' g n m c:=by
 refine ⟨h.pos,h.first,h.last,h.up,fun i j hi hj=>?_⟩
 have:=h.abv i j hi hj
 rw [e j hj,e (c i) (h.bd ω),e (c (i+1)) (h.bd hi)] at this;exact this
structure FT (w:World) (p:Nat) (v0 v1:Value) (e:Int) (n:Nat) (f:Nat->Int) (lr lf mr mf:Int) (m0 m1:Nat) (c0 c1:Nat->Nat):Prop where
 blk:cu w p (dF e n lr lf mr mf v0 v1) 264
 own0:w.ownsRow 0 284 2 v0 m0 (bT f c0 (-e) m0)
 own1:w.ownsRow 0 284 2 v1 m1 (bT f c1 e m1)
 ne0:∀ q,v0.ownBlock=some q->q≠p
 ne1:∀ q,v1.ownBlock=some q->q≠p
 ne:∀ q,v0.ownBlock=some q->v1.ownBlock=some q->False
 z:n=0->v0=.slice none 0 0/\v1=.slice none 0 0
 ch0:0<n->dJ f (fun j=>-1*(j:Int)) n m0 c0
 ch1:0<n->dJ f (fun j=>1*(j:Int)) n m1 c1
 up:Up f n
 bd:∀ i,i<n->0<=f i/\f i<18446744073709551616
 low:gK e f (aC n) lr lf
 top:gL e f (aC n) mr mf
 fit:aY e f (aC n)
 e1:1<=e/\e<=63
 sb:SB lr lf mr mf
def jO (p:Nat) (v0 v1:Value) (q:Nat):Prop:=q=p\/v0.ownBlock=some q\/v1.ownBlock=some q
def eC (w:World) (p:Nat) (S:Nat->Prop) (e:Int) (n:Nat) (f:Nat->Int):Prop :=
 ∃ v0 v1 lr lf mr mf m0 m1 c0 c1,FT w p v0 v1 e n f lr lf mr mf m0 m1 c0 c1/\∀ q,S q↔jO p v0 v1 q
theorem Xf {e size:Nat} (h:w.ownsRow base e size (.slice none 0 0) n xs):n=0:=by
 rcases h.2 with ⟨_,q⟩ | ⟨g,cap,cur,ev,_⟩
 ·exact q
 ·cases ev
theorem eC.keep (h:eC w p S e n f) (k:∀ q,S q->w'.heap[q]?=w.heap[q]?):eC w' p S e n f:=by obtain ⟨v0,v1,lr,lf,mr,mf,m0,m1,c0,c1,F,hS⟩:=h;exact ⟨v0,v1,lr,lf,mr,mf,m0,m1,c0,c1,{ F with blk:=(k p ((hS p).2 (.inl rfl))).trans F.blk,own0:=lO F.own0 fun q hq=>k q ((hS q).2 (.inr (.inl hq))),own1:=lO F.own1 fun q hq=>k q ((hS q).2 (.inr (.inr hq))) },hS⟩
theorem eC.lt (h:eC w p S e n f):∀ q,S q->q<w.heap.size:=by
 obtain ⟨v0,v1,lr,lf,mr,mf,m0,m1,c0,c1,F,hS⟩:=h;intro q hq;rcases (hS q).1 hq with rfl | r | r
 ·exact F.blk.lt
 ·exact (F.own0.lt q r).2
 ·exact (F.own1.lt q r).2
theorem eC.ext {g:Nat->Int} (h:eC w p S e n f) (k:∀ i,i<n->f i=g i):eC w p S e n g:=by
 obtain ⟨v0,v1,lr,lf,mr,mf,m0,m1,c0,c1,F,hS⟩:=h;have p0:bT f c0 (-e) m0=bT g c0 (-e) m0:=by
  by_cases hn:n=0
  ·have:=F.own0
   rw [(F.z hn).1] at this;have:=Xf this;subst this;rfl
  ·exact KH _ fun i hi=>⟨k _ ((F.ch0 ω).bd hi),rfl⟩
 have p1:bT f c1 e m1=bT g c1 e m1:=by
  by_cases hn:n=0
  ·have:=F.own1
   rw [(F.z hn).2] at this;have:=Xf this;subst this;rfl
  ·exact KH _ fun i hi=>⟨k _ ((F.ch1 ω).bd hi),rfl⟩
 have Lj:∀ i j,aC n i j->f j-f i=g j-g i:=fun i j s=>by rw [k j s.2,k i (by have:=s.1;have:=s.2;omega)]
 exact ⟨v0,v1,lr,lf,mr,mf,m0,m1,c0,c1,⟨F.blk,by rw [<-p0];exact F.own0,by rw [<-p1];exact F.own1,F.ne0,F.ne1,F.ne,F.z,fun hn=>(F.ch0 hn).congr k,fun hn=>(F.ch1 hn).congr k,
  fun j hj=>by rw [<-k j ω,<-k (j+1) hj];exact F.up j hj,fun i hi=>by rw [<-k i hi];exact F.bd i hi,F.low.congr (fun _ _=>Iff.rfl) Lj,F.top.congr (fun _ _=>Iff.rfl) Lj,F.fit.congr (fun _ _ s=>s) Lj,F.e1,F.sb⟩,hS⟩
theorem eC.facts (h:eC w p S e n f):Up f n/\(∀ i,i<n->0<=f i/\f i<18446744073709551616)/\aY e f (aC n)/\1<=e/\e<=63:=by obtain ⟨v0,v1,lr,lf,mr,mf,m0,m1,c0,c1,F,hS⟩:=h;exact ⟨F.up,F.bd,F.fit,F.e1.1,F.e1.2⟩
theorem ago (eps:Int) (h:¬ (2<=eps/\eps<=64)) (w:World):Calls prog 173 #[By eps] w fun ex w'=>ex=π #[.pointer none,By 1]/\Gw w w':=by
 have alt:eps<2\/(¬ eps<2/\64<eps):=ω;clear h;rcases alt with q | ⟨q,q'⟩
 ·go_enter func173,ntmps173
  go_wp2_with fail;go_ret2
  exact ⟨rfl,Gw.refl w⟩
 ·go_enter func173,ntmps173
  go_wp2_with fail;go_ret2
  exact ⟨rfl,Gw.refl w⟩
theorem agp (eps:Int) (h1:2<=eps) (h2:eps<=64) (w:World):Calls prog 173 #[By eps] w fun ex w'=>(∃ p S,ex=π #[IS p,By 0]/\(∀ q,S q->w.heap.size<=q)/\eC w' p S (eps-1) 0 (fun _=>0))/\Gw w w':=by
 have z1:¬ eps<2:=ω;have z2:¬ 64<eps:=ω;have we:IntKind.i64.wrap (eps-1)=eps-1:=by rw [Δ];omega
 have aD:ag (eC (w.alloc (.cells (dF (eps-1) 0 0 1 1 0 (.slice none 0 0) (.slice none 0 0)) 264)) w.heap.size (jO w.heap.size (.slice none 0 0) (.slice none 0 0)) (eps-1) 0 (fun _=>0)):=by
  refine ⟨.slice none 0 0,.slice none 0 0,0,1,1,0,0,0,fun _=>0,fun _=>0,⟨Ω w _,qaL _ _ _ _,qaL _ _ _ _,(fun q hq=>by cases hq),(fun q hq=>by cases hq),(fun q hq=>by cases hq),fun _=>⟨rfl,rfl⟩,(fun h=>ω),(fun h=>ω),(fun j hj=>ω),(fun i hi=>ω),?_,?_,?_,ω,?_⟩,fun q=>Iff.rfl⟩
  ·exact ⟨ω,ω,fun i j s=>by have:=s.1;have:=s.2;omega,.inl rfl⟩
  ·exact .inl ⟨rfl,rfl,fun i j s=>by have:=s.1;have:=s.2;omega⟩
  ·intro i j i' j' s;have:=s.1;have:=s.2;omega
  ·exact ⟨γ,γ,γ,γ,γ,γ,γ,γ⟩
 have SS:ag (∀ q,jO w.heap.size (.slice none 0 0) (.slice none 0 0) q->w.heap.size<=q):=by
  intro q hq;rcases hq with rfl | r | r
  ·exact Yk _
  ·cases r
  ·cases r
 go_enter func173,ntmps173;go_wp2_with fail;go_ret2
 first
  | exact ⟨⟨w.heap.size,_,rfl,SS.o,aD.o⟩,(Gw.refl w).alloc _ _⟩
  | exact ⟨⟨w.heap.size,rfl,_,SS.o,aD.o⟩,(Gw.refl w).alloc _ _⟩
theorem Xg {c g a:Int} (g0:0<g) (e:c*g=a) (c0:0<=c):c<=a:=by
 have:c*1<=c*g:=Int.mul_le_mul_of_nonneg_left ω c0
 omega
theorem agq (h:eC w p S e n f) (hn:n<=3000001):Calls prog 193 #[IS p] w fun ex w'=>(∃ a b,ex=χ (.agg #[BY a,BY b])/\bM e f (aC n) a b/\a<18446744073709551616/\b<18446744073709551616)/\Gw w w':=by
 obtain ⟨v0,v1,lr,lf,mr,mf,m0,m1,c0,c1,F,hS⟩:=h;have k2:=F.blk.cell (o:=2) (v:=By lr) rfl;have k3:=F.blk.cell (o:=3) (v:=BY lf) rfl;have lp:=F.blk.lt;have SL:ag (∀ W,Calls prog 215 #[.agg #[By lr,BY lf]] W fun ex w'=>(∃ a b,ex=χ (.agg #[BY a,BY b])/\bM e f (aC n) a b/\a<18446744073709551616/\b<18446744073709551616)/\Gw W w'):=by
  intro W;have b1:=F.low.b1;have s1:=F.sb.l1;have s3:=F.sb.l3;refine (aga lr lf F.low.a0 ω ω s3 W).mono ?_;rintro ex w' ⟨⟨c,d,g,rfl,g0,ec,ed,hg⟩,G⟩;have L:=F.low.red g0 ec ed hg;have q1:=Xg g0 ec L.a0;have q2:=Xg g0 ed (by have:=L.b1;omega)
  exact ⟨⟨c,d,rfl,L,ω,ω⟩,G⟩
 clear F hS;go_enter func193,ntmps193;go_wp2_with fail;refine (SL.o _).mono ?_;rintro ex w1 ⟨⟨a,b,rfl,hL⟩,g1⟩;have X:ag (Bx w1 w.heap.size 227 (BY 0) (BY 0)):=(Bx.new w _ _ _).gw g1;have HL:ag _:=hL;have G1:ag (Gw w w1):=((Gw.refl w).alloc _ _).trans g1;have x0:=X.o.c0;have x1:=X.o.c1;have x2:=X.o.fz 0;have x3:=X.o.fz 1;clear g1 hL;go_wp2_with fail;have Y:=X.o.set (BY a) (BY b);have y0:=Y.c0;have y1:=Y.c1;clear x0 x1 x2 x3;refine bodyPost_ret (v:=.agg #[BY a,BY b]) (by simp [results,results193,go_sem,y0,y1]) rfl ⟨⟨a,b,rfl,HL.o⟩,?_⟩
 exact (G1.o.setCell ε _).setCell ε _
variable {v1:Value}
theorem Xh {wa wb wd:World} {iR sF:Value} {kV lB:Nat} {nP iC:Nat->Nat}
  (o0:∀ q,v0.ownBlock=some q->q<w.heap.size/\q≠p) (o1:∀ q,v1.ownBlock=some q->q<w.heap.size/\q≠p) (ne:∀ q,v0.ownBlock=some q->v1.ownBlock=some q->False) (lp:p<w.heap.size)
  (Ga:Gs (fun q=>q=p) w wa)
  (Gb:Gs (fun q=>q=p\/v0.ownBlock=some q) wa wb) (O0:wb.ownsRow 0 284 2 iR kV (bT (aG f n x) nP (-e) kV)) (Q0:∀ q,iR.ownBlock=some q->(v0.ownBlock=some q\/wa.heap.size<=q)/\q≠p) (C0:dJ (aG f n x) (fun j=>-1*(j:Int)) (n+1) kV nP)
  (Gd:Gs (fun q=>q=p\/v1.ownBlock=some q) wb wd) (O1:wd.ownsRow 0 284 2 sF lB (bT (aG f n x) iC e lB)) (Q1:∀ q,sF.ownBlock=some q->(v1.ownBlock=some q\/wb.heap.size<=q)/\q≠p) (C1:dJ (aG f n x) (fun j=>1*(j:Int)) (n+1) lB iC)
  (hB:cu wd p (((dF e n lr lf mr mf v0 v1).setIfInBounds (6+1) iR).setIfInBounds (8+1) sF) 264)
  (up:Up (aG f n x) (n+1)) (bd:∀ i,i<n+1->0<=aG f n x i/\aG f n x i<18446744073709551616) (low:gK e (aG f n x) (aC (n+1)) lr lf) (top:gL e (aG f n x) (aC (n+1)) mr mf) (fit:aY e (aG f n x) (aC (n+1))) (e1:1<=e/\e<=63) (sb:SB lr lf mr mf) :
  (∃ S',eC (wd.setCell (φ p 1) (By ((n:Int)+1))) p S' e (n+1) (aG f n x)/\∀ q,S' q->jO p v0 v1 q\/w.heap.size<=q)/\Gs (jO p v0 v1) w (wd.setCell (φ p 1) (By ((n:Int)+1))):=by
 have sa:=Ga.size;have sb':=Gb.size;have x0:∀ q,iR.ownBlock=some q->q<wb.heap.size/\q≠p/\v1.ownBlock≠some q:=by
  intro q hq;refine ⟨(O0.lt q hq).2,(Q0 q hq).2,fun r=>?_⟩
  rcases (Q0 q hq).1 with t | t
  ·exact ne q t r
  ·have:=(o1 q r).1;omega
 have blk:cu (wd.setCell (φ p 1) (By ((n:Int)+1))) p (dF e (n+1) lr lf mr mf iR sF) 264:=hB.set 1 _;refine ⟨⟨jO p iR sF,⟨iR,sF,lr,lf,mr,mf,kV,lB,nP,iC,⟨blk,?_,?_,fun q hq=>(x0 q hq).2.1,fun q hq=>(Q1 q hq).2,?_,fun h=>ω,fun _=>C0,fun _=>C1,up,bd,low,top,fit,e1,sb⟩,fun q=>Iff.rfl⟩,?_⟩,?_⟩
 ·refine lO O0 fun q hq=>?_
  obtain ⟨h1,h2,h3⟩:=x0 q hq;rw [qac _ _ _ _ h2];exact Gd.block q h1 (fun r=>by rcases r with r | r;exact h2 r;exact h3 r)
 ·refine lO O1 fun q hq=>?_
  rw [qac _ _ _ _ (Q1 q hq).2]
 ·intro q h0 h1
  obtain ⟨t1,t2,t3⟩:=x0 q h0;rcases (Q1 q h1).1 with r | r
  ·exact t3 r
  ·omega
 ·intro q hq
  rcases hq with rfl | r | r
  ·exact .inl (.inl rfl)
  ·rcases (Q0 q r).1 with t | t
   ·exact .inl (.inr (.inl t))
   ·exact .inr ω
  ·rcases (Q1 q r).1 with t | t
   ·exact .inl (.inr (.inr t))
   ·exact .inr ω
 ·refine Gs.set ?_ (.inl rfl) _ _
  refine ⟨Gd.os.trans (Gb.os.trans Ga.os),Gd.tape.trans (Gb.tape.trans Ga.tape),Gd.output.trans (Gb.output.trans Ga.output),by have:=Gd.size;omega,fun q hq hs=>?_⟩
  have n1:q≠p:=fun r=>hs (.inl r)
  have n2:¬ (v0.ownBlock=some q):=fun r=>hs (.inr (.inl r))
  have n3:¬ (v1.ownBlock=some q):=fun r=>hs (.inr (.inr r))
  rw [Gd.block q ω (fun r=>by rcases r with r | r;exact n1 r;exact n3 r),Gb.block q ω (fun r=>by rcases r with r | r;exact n1 r;exact n2 r),Ga.block q hq n1]
theorem Laid.undrew (k:Laid w.drew w' p o B T v f n x s h):Laid w w' p o B T v f n x s h :=
 ⟨k.1,k.2.os,k.2.tape,k.2.output,k.2.size,k.2.block⟩
theorem Bx.gs' {b:Nat} {u:Value} (h:Bx w b t u v) (g:Gs S w w') (n:¬ S b):Bx w' b t u v:=(g.block b h.lt n).trans h
theorem FT.chains (F:FT w p v0 v1 e n f lr lf mr mf m0 m1 c0 c1) (hn:0<n) :
  ∃ g0 bO g1 cY,v0=ψ g0 0 m0 bO/\v1=ψ g1 0 m1 cY/\CH w p 6 g0 m0 bO (-1) (-e) f n c0/\CH w p 8 g1 m1 cY 1 e f n c1:=by
 obtain ⟨g0,bO,e0,_,_⟩:=F.own0.form (F.ch0 hn).pos;obtain ⟨g1,cY,e1,_,_⟩:=F.own1.form (F.ch1 hn).pos;subst e0;subst e1;exact ⟨g0,bO,g1,cY,rfl,rfl,⟨F.blk.lt,F.blk.cell rfl,F.blk.cell rfl,KO F.own0,F.ch0 hn⟩,⟨F.blk.lt,F.blk.cell rfl,F.blk.cell rfl,KO F.own1,F.ch1 hn⟩⟩
theorem agr (F:FT w p v0 v1 e n f lr lf mr mf m0 m1 c0 c1) (x:Int) (x0:0<=x) (x1:x<18446744073709551616) (zu:n<=3000000) (hn:0<n) (hx:x<=f (n-1)) :
  Calls prog 190 #[IS p,BY x] w fun ex w'=>ex=π #[.bool false,By 40]/\Gw w w':=by
 have kb:KB f n:=⟨F.up,F.bd,ω⟩;obtain ⟨g0,bO,g1,cY,_,_,k0,k1⟩:=F.chains hn;have LA:ag (Calls prog 212 #[.pointer (some (φ p 6))] w fun e' w'=>e'=χ (.agg #[BY (f (n-1)),By (((n-1:Nat):Int)+-e)])/\Gw w w'):=WG kb w k0
 have iC:=F.blk.cell (o:=1) (v:=By n) rfl;have hni:(0:Int)<n:=ω;generalize f (n-1)=fl at LA hx;generalize ((n-1:Nat):Int)+-e=yl at LA;have vw:∀ W:World,(Instr.field 284 (.agg #[BY fl,By yl]) 0).run prog W=.ok (BY fl) W:=fun _=>η
 clear F k0 k1 kb;go_enter func190,ntmps190;go_wp2_with fail;refine LA.o.mono ?_;rintro ex w1 ⟨rfl,g1⟩;have G1:ag _:=g1;clear g1;go_wp2_with fail;go_ret2;exact ⟨rfl,G1.o⟩
theorem ags (F:FT w p v0 v1 e 0 f lr lf mr mf m0 m1 c0 c1) (x:Int) (x0:0<=x) (x1:x<18446744073709551616) :
  Calls prog 190 #[IS p,BY x] w fun ex w'=>ex=π #[.bool true,By 0]/\(∃ S',eC w' p S' e 1 (aG f 0 x)/\∀ q,S' q->jO p v0 v1 q\/w.heap.size<=q)/\Gs (jO p v0 v1) w w':=by
 obtain ⟨z0,z1⟩:=F.z rfl;subst z0;subst z1;obtain ⟨e1,e2⟩:=F.e1;have HB:ag (cu w p (dF e 0 lr lf mr mf (.slice none 0 0) (.slice none 0 0)) 264):=F.blk;have HF:ag (gK e (aG f 0 x) (aC (0+1)) lr lf/\gL e (aG f 0 x) (aC (0+1)) mr mf/\aY e (aG f 0 x) (aC (0+1))/\SB lr lf mr mf):=by
  refine ⟨F.low.congr (fun i j=>?_) (fun i j s=>by have:=s.1;have:=s.2;omega),F.top.congr (fun i j=>?_) (fun i j s=>by have:=s.1;have:=s.2;omega),fun i j i' j' s=>by have:=s.1;have:=s.2;omega,F.sb⟩
  ·unfold aC;omega
  ·unfold aC;omega
 have iC:=F.blk.cell (o:=1) (v:=By 0) rfl;have nP:=F.blk.cell (o:=0) (v:=By e) rfl;have lp:=F.blk.lt;have Lk:IntKind.i64.wrap (0-e)=-e:=by rw [Δ];omega
 have Ll:IntKind.i64.wrap (-e)=-e:=by rw [Δ];omega
 clear F;go_enter func190,ntmps190;go_wp2_with fail;go_cut [7,8] (fun s7 s8 wc=>∃ (b7 b8:Nat),s7=IS b7/\s8=IS b8/\ag (Bx wc b7 284 (BY x) (By (-e)))/\ag (Bx wc b8 284 (BY x) (By (e)))/\ag (w.heap.size<=b7)/\ag (w.heap.size<=b8)/\ag (Gw w wc))
 case first =>
  go_region
  all_goals
   go_wp2_with fail;go_meet
  all_goals
   case rel =>
    first
     | exact ⟨w.heap.size,w.heap.size+1,rfl,rfl,(show ag _ from (Bx.new w _ _ _).alloc _),(show ag _ from (Bx.new _ _ _ _).at ε),(show ag _ from Yk _),(show ag _ from Nat.le_succ _),(show ag _ from (((Gw.refl w).alloc _ _).alloc _ _).drew)⟩
     | exact ⟨w.heap.size+1,w.heap.size,rfl,rfl,(show ag _ from (Bx.new _ _ _ _).at ε),(show ag _ from (Bx.new w _ _ _).alloc _),(show ag _ from Nat.le_succ _),(show ag _ from Yk _),(show ag _ from (((Gw.refl w).alloc _ _).alloc _ _).drew)⟩
 case rest =>
  obtain ⟨W1,fY⟩:=qbs wc;subst fY;obtain ⟨b7,b8,rfl,rfl,B7,B8,L7,L8,G1⟩:=hcut;have F1:ag (cu W1 p (dF e 0 lr lf mr mf (.slice none 0 0) (.slice none 0 0)) 264):=HB.o.gw G1.o;have LA:ag (∀ W,Gw W1 W->Calls prog 214 #[.pointer (some (φ p 6)),.agg #[BY x,By (-e)]] W fun ex w'=>ex=π #[]/\Laid W w' p 6 (dF e 0 lr lf mr mf (.slice none 0 0) (.slice none 0 0)) 264 (.slice none 0 0) f 0 x (-1) (-e)):=fun W G=>WM ω ω x x0 x1 (F1.o.gw G) rfl
  have d0:=B7.o.c0;have d1:=B7.o.c1;have d2:=F1.o.cell (o:=1) (v:=By 0) rfl;clear iC nP Lk Ll;go_wp2_with fail;go_cut [] (fun wc=>ag (Laid W1 wc p 6 (dF e 0 lr lf mr mf (.slice none 0 0) (.slice none 0 0)) 264 (.slice none 0 0) f 0 x (-1) (-e)))
  case first =>
   go_region_with (go_at_call 214;refine (LA.o _ ((Gw.refl _).drew)).mono ?_;rintro ex w8 ⟨rfl,hL⟩;have HL:ag (Laid W1 w8 p 6 (dF e 0 lr lf mr mf (.slice none 0 0) (.slice none 0 0)) 264 (.slice none 0 0) f 0 x (-1) (-e)):=hL.undrew;clear hL)
   all_goals
    go_wp2_with fail;go_meet
   all_goals
    case rel=>exact HL.o
  case rest =>
   obtain ⟨W2,fY⟩:=qbs wc;subst fY;obtain ⟨⟨iR,kV,nP,H1,n6,H3,H4⟩,H5⟩:=hcut.o;have D1:ag (cu W2 p ((dF e 0 lr lf mr mf (.slice none 0 0) (.slice none 0 0)).setIfInBounds (6+1) iR) 264):=H1;have D2:ag _:=n6;have D3:ag _:=H3;have D4:ag _:=H4;have D5:ag _:=H5;have Eg:ag (Bx W2 b8 284 (BY x) (By e)):=B8.o.gs' H5 (fun r=>by rcases r with r | r;(have:=L8.o;omega);cases r)
   clear H1 n6 H3 H4 H5 hcut LA d0 d1 d2;have LA:ag (∀ W,Gw W2 W->Calls prog 214 #[.pointer (some (φ p 8)),.agg #[BY x,By e]] W fun ex w'=>ex=π #[]/\Laid W w' p 8 ((dF e 0 lr lf mr mf (.slice none 0 0) (.slice none 0 0)).setIfInBounds (6+1) iR) 264 (.slice none 0 0) f 0 x 1 e):=fun W G=>WM ω ω x x0 x1 (D1.o.gw G) rfl
   have d0:=Eg.o.c0;have d1:=Eg.o.c1;go_wp2_with fail;go_cut [] (fun wc=>ag (Laid W2 wc p 8 ((dF e 0 lr lf mr mf (.slice none 0 0) (.slice none 0 0)).setIfInBounds (6+1) iR) 264 (.slice none 0 0) f 0 x (1) (e)))
   case first =>
    go_region_with (go_at_call 214;refine (LA.o _ ((Gw.refl _).drew)).mono ?_;rintro ex w8 ⟨rfl,hL⟩;have HL:ag (Laid W2 w8 p 8 ((dF e 0 lr lf mr mf (.slice none 0 0) (.slice none 0 0)).setIfInBounds (6+1) iR) 264 (.slice none 0 0) f 0 x (1) (e)):=hL.undrew;clear hL)
    all_goals
     go_wp2_with fail;go_meet
    all_goals
     case rel=>exact HL.o
   case rest =>
    obtain ⟨W3,fY⟩:=qbs wc;subst fY;obtain ⟨⟨sF,lB,iC,H1,n6,H3,H4⟩,H5⟩:=hcut.o;have aD:ag ((∃ S',eC (W3.setCell (φ p 1) (By 1)) p S' e (0+1) (aG f 0 x)/\∀ q,S' q->jO p (.slice none 0 0) (.slice none 0 0) q\/w.heap.size<=q)/\Gs (jO p (.slice none 0 0) (.slice none 0 0)) w (W3.setCell (φ p 1) (By 1))):=by
     refine Xh (n:=0) (fun q hq=>by cases hq) (fun q hq=>by cases hq) (fun q hq=>by cases hq) lp (G1.o.gs _) D5.o D2.o D4.o D3.o H5 n6 H4 H3 H1 (fun j hj=>ω) (fun i hi=>?_) HF.o.1 HF.o.2.1 HF.o.2.2.1 ⟨e1,e2⟩ HF.o.2.2.2
     have:i=0:=ω
     subst this;rw [eF];exact ⟨x0,x1⟩
    have q1:W3.cell? (φ p 1)=some (By 0):=H1.cell rfl;have q2:=H1.fz 1;clear H1 n6 H3 H4 H5 hcut D1 D2 D3 D4 D5 LA d0 d1;go_wp2_with fail;go_ret2;exact ⟨rfl,aD.o.1,aD.o.2⟩
theorem agt (F:FT w p v0 v1 e n f lr lf mr mf m0 m1 c0 c1) (x:Int) (x0:0<=x) (x1:x<18446744073709551616) (zu:n<=3000000) (hn:0<n) (hx:f (n-1)<x) :
  Calls prog 190 #[IS p,BY x] w fun ex w'=>∃ ok:Bool,ex=π #[.bool ok,By 0]/\(ok=true↔aY e (aG f n x) (aC (n+1)))/\(ok=false->Gw w w')/\(ok=true->(∃ S',eC w' p S' e (n+1) (aG f n x)/\∀ q,S' q->jO p v0 v1 q\/w.heap.size<=q)/\Gs (jO p v0 v1) w w'):=by
 have kb:KB f n:=⟨F.up,F.bd,ω⟩;obtain ⟨e1,e2⟩:=F.e1;obtain ⟨g0,bO,g1,cY,ev0,ev1,k0,k1⟩:=F.chains hn;subst ev0;subst ev1;have Eh:ag (Calls prog 212 #[.pointer (some (φ p 6))] w fun e' w'=>e'=χ (.agg #[BY (f (n-1)),By (((n-1:Nat):Int)+-e)])/\Gw w w'):=WG kb w k0
 have NA:ag (∀ W,Gw w W->Calls prog 213 #[IS p,.agg #[BY x,By ((n:Int)-e)],.agg #[BY x,By ((n:Int)+e)]] W fun ex w'=>∃ ok:Bool,ex=χ (.bool ok)/\KT W w' p e n f x (ψ g0 0 m0 bO) (ψ g1 0 m1 cY) ok):=fun W G=>agn kb hn zu e1 e2 x hx x1 (F.blk.gw G) (k0.gw G) (k1.gw G) F.low F.top F.sb
 have kM:ag (FT w p (ψ g0 0 m0 bO) (ψ g1 0 m1 cY) e n f lr lf mr mf m0 m1 c0 c1):=F;have Ei:ag (KB f n):=kb;have iC:=F.blk.cell (o:=1) (v:=By n) rfl;have lp:=F.blk.lt;have hni:(0:Int)<n:=ω;have Lk:IntKind.i64.wrap ((n:Int)-e)=(n:Int)-e:=by rw [Δ];omega
 have Ll:IntKind.i64.wrap ((n:Int)+e)=(n:Int)+e:=by rw [Δ];omega
 have HX:ag (f (n-1)<x):=hx;have jE:¬ x<=f (n-1):=ω;generalize f (n-1)=fl at Eh jE;generalize ((n-1:Nat):Int)+-e=yl at Eh;have vw:∀ W:World,(Instr.field 284 (.agg #[BY fl,By yl]) 0).run prog W=.ok (BY fl) W:=fun _=>η
 clear F k0 k1 kb hx;go_enter func190,ntmps190;go_wp2_with fail;refine Eh.o.mono ?_;rintro ex wz ⟨rfl,gz⟩;have GZ:ag _:=gz;have Bb:=(GZ.o.cell p 1 lp).trans iC;have nP:=(GZ.o.cell p 0 lp).trans (kM.o.blk.cell (o:=0) (v:=By e) rfl);have lpz:p<wz.heap.size:=Θ lp GZ.o.size;clear gz Eh;go_wp2_with fail;go_cut [7,8] (fun s7 s8 wc=>∃ (b7 b8:Nat),s7=IS b7/\s8=IS b8/\ag (Bx wc b7 284 (BY x) (By ((n:Int)-e)))/\ag (Bx wc b8 284 (BY x) (By ((n:Int)+e)))/\ag (wz.heap.size<=b7)/\ag (wz.heap.size<=b8)/\ag (Gw wz wc))
 case first =>
  go_region
  all_goals
   go_wp2_with fail;go_meet
  all_goals
   case rel =>
    first
     | exact ⟨wz.heap.size,wz.heap.size+1,rfl,rfl,(show ag _ from (Bx.new wz _ _ _).alloc _),(show ag _ from (Bx.new _ _ _ _).at ε),(show ag _ from Yk _),(show ag _ from Nat.le_succ _),(show ag _ from (((Gw.refl wz).alloc _ _).alloc _ _).drew)⟩
     | exact ⟨wz.heap.size+1,wz.heap.size,rfl,rfl,(show ag _ from (Bx.new _ _ _ _).at ε),(show ag _ from (Bx.new wz _ _ _).alloc _),(show ag _ from Nat.le_succ _),(show ag _ from Yk _),(show ag _ from (((Gw.refl wz).alloc _ _).alloc _ _).drew)⟩
 case rest =>
  obtain ⟨W1,fY⟩:=qbs wc;subst fY;obtain ⟨b7,b8,rfl,rfl,B7,B8,L7,L8,G1⟩:=hcut;have iL:ag (Gw w W1):=GZ.o.trans G1.o;have l7:w.heap.size<=b7:=Φ GZ.o.size L7.o;have l8:w.heap.size<=b8:=Φ GZ.o.size L8.o;have d0:=B7.o.c0;have d1:=B7.o.c1;have d2:=B8.o.c0;have d3:=B8.o.c1;have d4:=(iL.o.cell p 1 lp).trans iC;clear iC Bb nP Lk Ll jE lpz;go_wp2_with fail;refine (NA.o _ iL.o).mono ?_;rintro ex W2 ⟨ok,rfl,hN⟩;have HN:ag (KT W1 W2 p e n f x (ψ g0 0 m0 bO) (ψ g1 0 m1 cY) ok):=hN;clear hN NA d0 d1 d2 d3 d4;cases ok with
  | false =>
   go_wp2_with fail;go_ret2
   exact ⟨false,rfl,HN.o.1,fun _=>iL.o.trans (HN.o.2.1 rfl),fun q=>Bool.noConfusion q⟩
  | true =>
   have FI:ag _:=HN.o.1.1 rfl;obtain ⟨⟨lI,jh,o9,pa,hB,hL,hT,hS⟩,hG⟩:=HN.o.2.2 rfl;have fX:ag (cu W2 p (dF e n lI jh o9 pa (ψ g0 0 m0 bO) (ψ g1 0 m1 cY)) 264):=hB;have SL:ag (gK e (aG f n x) (aC (n+1)) lI jh/\gL e (aG f n x) (aC (n+1)) o9 pa/\SB lI jh o9 pa):=⟨hL,hT,hS⟩;have GA:ag (Gs (fun q=>q=p) w W2):=⟨hG.os.trans iL.o.below.os,hG.tape.trans iL.o.below.tape,hG.output.trans iL.o.below.output,Φ iL.o.size hG.size,fun q hq hs=>(hG.block q (Θ hq iL.o.size) hs).trans (iL.o.below.block q hq)⟩
   have Lm:ag (Bx W2 b7 284 (BY x) (By ((n:Int)-e))):=B7.o.gs' hG (fun r=>by have:b7=p:=r;omega)
   have Eg:ag (Bx W2 b8 284 (BY x) (By ((n:Int)+e))):=B8.o.gs' hG (fun r=>by have:b8=p:=r;omega)
   have OW:ag ((g0<w.heap.size/\g0≠p)/\(g1<w.heap.size/\g1≠p)/\g0≠g1):=⟨⟨(kM.o.own0.lt g0 rfl).2,kM.o.ne0 g0 rfl⟩,⟨(kM.o.own1.lt g1 rfl).2,kM.o.ne1 g1 rfl⟩,fun q=>kM.o.ne g0 rfl (by rw [q];rfl)⟩
   have Xi:ag (W2.ownsRow 0 284 2 (ψ g0 0 m0 bO) m0 (bT f c0 (-e) m0)):=lO kM.o.own0 fun q hq=>GA.o.block q (kM.o.own0.lt q hq).2 (kM.o.ne0 q hq)
   have Xj:ag (W2.ownsRow 0 284 2 (ψ g1 0 m1 cY) m1 (bT f c1 e m1)):=lO kM.o.own1 fun q hq=>GA.o.block q (kM.o.own1.lt q hq).2 (kM.o.ne1 q hq)
   have LA:ag (∀ W,Gw W2 W->Calls prog 214 #[.pointer (some (φ p 6)),.agg #[BY x,By ((n:Int)-e)]] W fun ex w'=>ex=π #[]/\Laid W w' p 6 (dF e n lI jh o9 pa (ψ g0 0 m0 bO) (ψ g1 0 m1 cY)) 264 (ψ g0 0 m0 bO) f n x (-1) (-e)):=fun W G=>(by
    have:=WO (o:=6) (s:=-1) (h:=-e) Ei.o hn (.inr rfl) ω ω x HX.o x1 (fX.o.gw G) rfl rfl (lO Xi.o fun q hq=>G.below.block q (Xi.o.lt q hq).2) OW.o.1.2 (kM.o.ch0 hn)
    rw [show (n:Int)+-e=(n:Int)-e by omega] at this
    exact this)
   have d0:=Lm.o.c0;have d1:=Lm.o.c1;clear HN hB hL hT hS hG B7 B8 Lm iL GZ G1;go_wp2_with fail;go_cut [] (fun wc=>ag (Laid W2 wc p 6 (dF e n lI jh o9 pa (ψ g0 0 m0 bO) (ψ g1 0 m1 cY)) 264 (ψ g0 0 m0 bO) f n x (-1) (-e)))
   case first =>
    go_region_with (go_at_call 214;refine (LA.o _ ((Gw.refl _).drew)).mono ?_;rintro ex w8 ⟨rfl,hL⟩;have HL:ag (Laid W2 w8 p 6 (dF e n lI jh o9 pa (ψ g0 0 m0 bO) (ψ g1 0 m1 cY)) 264 (ψ g0 0 m0 bO) f n x (-1) (-e)):=hL.undrew;clear hL)
    all_goals
     go_wp2_with fail;go_meet
    all_goals
     case rel=>exact HL.o
   case rest =>
    obtain ⟨W3,fY⟩:=qbs wc;subst fY;obtain ⟨⟨iR,kV,nP,H1,n6,H3,H4⟩,H5⟩:=hcut.o;have D1:ag (cu W3 p ((dF e n lI jh o9 pa (ψ g0 0 m0 bO) (ψ g1 0 m1 cY)).setIfInBounds (6+1) iR) 264):=H1;have D2:ag _:=n6;have D3:ag _:=H3;have D4:ag _:=H4;have D5:ag _:=H5;have Xk:ag (Bx W3 b8 284 (BY x) (By ((n:Int)+e))):=Eg.o.gs' H5 (fun r=>by
     rcases r with r | r
     ·have:b8=p:=r
      omega
     ·have r':some g0=some b8:=r
      have:=OW.o.1.1
      simp at r';omega)
    have Xl:ag (W3.ownsRow 0 284 2 (ψ g1 0 m1 cY) m1 (bT f c1 e m1)):=lO Xj.o fun q hq=>(by
     have hq2:=(Xj.o.lt q hq).2;cases hq;exact H5.block _ hq2 (fun r=>by
      rcases r with r | r
      ·exact OW.o.2.1.2 r
      ·cases r
       exact OW.o.2.2 rfl))
    clear H1 n6 H3 H4 H5 hcut LA d0 d1;have LA:ag (∀ W,Gw W3 W->Calls prog 214 #[.pointer (some (φ p 8)),.agg #[BY x,By ((n:Int)+e)]] W fun ex w'=>ex=π #[]/\Laid W w' p 8 ((dF e n lI jh o9 pa (ψ g0 0 m0 bO) (ψ g1 0 m1 cY)).setIfInBounds (6+1) iR) 264 (ψ g1 0 m1 cY) f n x 1 e):=fun W G =>
     WO (o:=8) (s:=1) (h:=e) Ei.o hn (.inl rfl) ω ω x HX.o x1 (D1.o.gw G) rfl rfl (lO Xl.o fun q hq=>G.below.block q (Xl.o.lt q hq).2) OW.o.2.1.2 (kM.o.ch1 hn)
    have d0:=Xk.o.c0;have d1:=Xk.o.c1;go_wp2_with fail;go_cut [] (fun wc=>ag (Laid W3 wc p 8 ((dF e n lI jh o9 pa (ψ g0 0 m0 bO) (ψ g1 0 m1 cY)).setIfInBounds (6+1) iR) 264 (ψ g1 0 m1 cY) f n x (1) (e)))
    case first =>
     go_region_with (go_at_call 214;refine (LA.o _ ((Gw.refl _).drew)).mono ?_;rintro ex w8 ⟨rfl,hL⟩;have HL:ag (Laid W3 w8 p 8 ((dF e n lI jh o9 pa (ψ g0 0 m0 bO) (ψ g1 0 m1 cY)).setIfInBounds (6+1) iR) 264 (ψ g1 0 m1 cY) f n x (1) (e)):=hL.undrew;clear hL)
     all_goals
      go_wp2_with fail;go_meet
     all_goals
      case rel=>exact HL.o
    case rest =>
     obtain ⟨W4,fY⟩:=qbs wc;subst fY;obtain ⟨⟨sF,lB,iC,H1,n6,H3,H4⟩,H5⟩:=hcut.o;have aD:ag ((∃ S',eC (W4.setCell (φ p 1) (By ((n:Int)+1))) p S' e (n+1) (aG f n x)/\∀ q,S' q->jO p (ψ g0 0 m0 bO) (ψ g1 0 m1 cY) q\/w.heap.size<=q)/\Gs (jO p (ψ g0 0 m0 bO) (ψ g1 0 m1 cY)) w (W4.setCell (φ p 1) (By ((n:Int)+1)))):=by
      refine Xh (n:=n) (fun q hq=>by cases hq;exact OW.o.1) (fun q hq=>by cases hq;exact OW.o.2.1) (fun q hq hr=>by cases hq;cases hr;exact OW.o.2.2 rfl) lp GA.o D5.o D2.o D4.o D3.o H5 n6 H4 H3 H1 (Fh Ei.o.up (fun _=>HX.o)) (fun i hi=>?_) SL.o.1 SL.o.2.1 FI.o ⟨e1,e2⟩ SL.o.2.2
      by_cases jS:i=n
      ·rw [jS,eF]
       exact ⟨x0,x1⟩
      ·rw [bJ ω]
       exact Ei.o.bd i ω
     have q1:W4.cell? (φ p 1)=some (By n):=H1.cell rfl;have q2:=H1.fz 1;have q3:IntKind.i64.wrap ((n:Int)+1)=(n:Int)+1:=(by rw [Δ];omega);clear H1 n6 H3 H4 H5 hcut D1 D2 D3 D4 D5 LA d0 d1;go_wp2_with fail;go_ret2;exact ⟨true,rfl,⟨fun _=>FI.o,fun _=>rfl⟩,(fun q=>Bool.noConfusion q),fun _=>aD.o⟩
theorem agu (h:eC w p S e n f) (x:Int) (x0:0<=x) (x1:x<18446744073709551616) (hn:n<=3000000) :
  Calls prog 190 #[IS p,BY x] w fun ex w' =>
   (∃ (ok:Bool) (err:Int) (S':Nat->Prop),ex=π #[.bool ok,By err]/\Fi e n f x ok err/\eC w' p S' e (if ok then n+1 else n) (if ok then aG f n x else f)/\∀ q,S' q->S q\/w.heap.size<=q)/\Gs S w w':=by
 have hk:=h;obtain ⟨v0,v1,lr,lf,mr,mf,m0,m1,c0,c1,F,hS⟩:=h;have jx:∀ w',Gw w w'->eC w' p S e n f:=fun w' G=>hk.keep fun q hq=>G.below.block q (hk.lt q hq)
 have GS:∀ w',Gs (jO p v0 v1) w w'->Gs S w w':=fun w' g=>⟨g.os,g.tape,g.output,g.size,fun q hq hs=>g.block q hq (fun r=>hs ((hS q).2 r))⟩
 by_cases hx:0<n/\x<=f (n-1)
 ·refine (agr F x x0 x1 hn hx.1 hx.2).mono ?_
  rintro ex w' ⟨rfl,g⟩;exact ⟨⟨false,40,S,rfl,.inl ⟨hx.1,hx.2,rfl,rfl⟩,jx w' g,fun q hq=>.inl hq⟩,g.gs S⟩
 ·by_cases hz:n=0
  ·subst hz
   refine (ags F x x0 x1).mono ?_;rintro ex w' ⟨rfl,⟨S',hF,Lo⟩,g⟩;refine ⟨⟨true,0,S',rfl,.inr ⟨hx,rfl,⟨fun _=>?_,fun _=>rfl⟩⟩,hF,fun q hq=>?_⟩,GS w' g⟩
   ·intro i j i' j' s
    have:=s.1;have:=s.2;omega
   ·rcases Lo q hq with r | r
    ·exact .inl ((hS q).2 r)
    ·exact .inr r
  ·have jE:f (n-1)<x:=by
    rcases Int.lt_or_le (f (n-1)) x with q | q
    ·exact q
    ·exact absurd ⟨ω,q⟩ hx
   refine (agt F x x0 x1 hn ω jE).mono ?_;rintro ex w' ⟨ok,rfl,h1,h2,h3⟩;cases ok with
   | false=>exact ⟨⟨false,0,S,rfl,.inr ⟨hx,rfl,h1⟩,jx w' (h2 rfl),fun q hq=>.inl hq⟩,(h2 rfl).gs S⟩
   | true =>
    obtain ⟨⟨S',hF,Lo⟩,g⟩:=h3 rfl;refine ⟨⟨true,0,S',rfl,.inr ⟨hx,rfl,h1⟩,hF,fun q hq=>?_⟩,GS w' g⟩
    rcases Lo q hq with r | r
    ·exact .inl ((hS q).2 r)
    ·exact .inr r
theorem Xm:pH eC where
 keep:=eC.keep
 lt:=eC.lt
 ext:=eC.ext
 facts:=eC.facts
 bad:=ago
 new:=agp
 add:=agu
 least:=agq
